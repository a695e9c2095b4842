package decide_test

import (
	"strconv"
	"strings"
	"testing"

	"latchwork/api"
	"latchwork/decide"
	"latchwork/samples"
	"latchwork/text"
	"latchwork/trace"
)

// N2: by hand.
func TestTextByHand(t *testing.T) {
	turn := "0 const 1 0\n1 state 1\n2 not 1 1\ninit 1 0\nnext 1 2\nbad 1\n"
	count := "0 state 3\n1 const 3 1\n2 add 3 0 1\n3 const 3 0\n4 const 3 2\n5 eq 1 0 4\ninit 0 3\nnext 0 2\nbad 5\n"
	two := "0 const 2 2\n1 input 2\n2 state 2\n3 input 1\n4 state 2\n5 cut 1 4 1\ninit 2 0\nnext 2 1\nnext 4 2\nbad 5\nhold 3\n"
	for i, x := range []struct {
		s     string
		steps int
		want  string
	}{
		{turn, 1, "unsafe 1\nstart 0\nin\nin\n"},
		{turn, 40, "unsafe 1\nstart 0\nin\nin\n"},
		{strings.Replace(turn, "next 1 2", "next 1 0", 1), 3, "safe 1\n"},
		{count, 1, "unknown 1\n"},
		{count, 2, "unsafe 2\nstart 0\nin\nin\nin\n"},
		{strings.Replace(count, "2 add 3 0 1", "2 and 3 0 1", 1), 2, "safe 1\n"},
		{"", 1, "safe 1\n"},
		{"0 const 1 1\nbad 0\n", 1, "unsafe 0\nstart\nin\n"},
		{"0 input 1\nbad 0\n", 1, "unsafe 0\nstart\nin 1\n"},
		{"0 input 1\nbad 0", 1, "error 2\n"},
		{"0 input 1\nbad 0\n\n", 1, "error 3\n"},
		{"\n", 1, "error 1\n"},
		{"x", 1, "error 1\n"},
		{"0 input 1\nbad 1\n", 1, "error 0\n"},
		{"0 input 1\nbad 1\nbad x\n", 1, "error 3\n"},
		{"0 input 9\n", 1, "error 0\n"},
		{"0 state 1\n", 1, "error 0\n"},
		{"1 const 1 0\n", 1, "error 1\n"},
		{strings.Repeat("bad 0\n", 9), 1, "error 0\n"},
		{strings.Repeat("x", 10000), 1, "error 1\n"},
		{strings.Repeat("x", 10001), 1, "error 0\n"},
		{"0 const 1 0\n\xff\x00\n", 1, "error 2\n"},
	} {
		if got, e := decide.Text(x.s, x.steps, api.MaxFuel); got != x.want || e != api.OK {
			t.Errorf("%d: %q %d, want %q", i, got, e, x.want)
		}
	}
	got, e := decide.Text(two, 2, api.MaxFuel)
	if lines := strings.Split(got, "\n"); e != api.OK || len(lines) != 4 || lines[0] != "unsafe 0" || len(lines[1]) != len("start 2 2") || len(lines[2]) != len("in 0 1") {
		t.Errorf("two: %q %d", got, e)
	}
}

// N2: a text tells what Decide does.
func TestTextTells(t *testing.T) {
	d := new(samples.Draw)
	told := map[int]int{}
	for i := range 300 {
		m := d.Shuffler(2, 1+i%2, 1+d.Below(3))
		if i%3 == 0 {
			m = d.Model(d.Below(5), d.Below(5), d.Below(20))
		}
		s, e := text.Print(m)
		if e != api.OK {
			t.Fatal(e)
		}
		for _, fuel := range []int{api.MaxFuel, 3} {
			steps := 1 + d.Below(8)
			want := decided(t, m, steps, fuel)
			got, e := decide.Text(s, steps, fuel)
			word := []string{"", "safe", "unsafe", "unknown"}[want.End]
			first, rest, _ := strings.Cut(got, "\n")
			if e != api.OK || first != word+" "+strconv.Itoa(want.Deep) {
				t.Fatalf("%q: %q %d, want %v", s, got, e, want)
			}
			told[want.End]++
			if want.End != api.EndUnsafe {
				if rest != "" {
					t.Fatalf("%q: %q", s, got)
				}
				continue
			}
			x, e := trace.Parse(rest)
			if bad, f := trace.Bad(m, x); !bad || e != api.OK || f != api.OK || len(x.Inputs) != want.Deep+1 {
				t.Fatalf("%q: %q: is bad: %v %d %d", s, got, bad, e, f)
			}
		}
	}
	if min(told[api.EndSafe], told[api.EndUnsafe], told[api.EndUnknown]) < 30 {
		t.Errorf("told: %v", told)
	}
}

// N2: where Parse has an error, its line is told, and else no error is.
func TestTextTellsLines(t *testing.T) {
	d := new(samples.Draw)
	pieces := []string{"", " ", "\n", "0", "1", "9", "x", "bad", "\nbad 0\n", "-"}
	wrong := 0
	for range 1000 {
		s, e := text.Print(d.Model(d.Below(3), d.Below(3), d.Below(5)))
		if e != api.OK {
			t.Fatal(e)
		}
		s = d.Altered(s, pieces)
		_, line, e := text.Parse(s)
		got, f := decide.Text(s, 1, api.MaxFuel)
		if want := "error " + strconv.Itoa(line) + "\n"; f != api.OK || (got == want) != (e != api.OK) || e == api.OK && strings.HasPrefix(got, "error") {
			t.Fatalf("%q: %q %d, line %d, %d", s, got, f, line, e)
		}
		if e != api.OK {
			wrong++
		}
	}
	if wrong < 300 || wrong > 970 {
		t.Errorf("%d are wrong", wrong)
	}
}

// N2, P1: errors, ahead of what is wrong with the text; nothing with them.
func TestTextRefuses(t *testing.T) {
	for _, x := range wrongAsks() {
		for _, s := range []string{"", "x", "0 const 1 1\nbad 0\n", "0 state 1\n", strings.Repeat("x", 10001)} {
			if got, e := decide.Text(s, x[0], x[1]); got != "" || e != api.ErrRange {
				t.Errorf("%.10q, %v: %q %d", s, x, got, e)
			}
		}
	}
}

// N2, P3: the same each time.
func TestTextIsTheSame(t *testing.T) {
	s, _ := text.Print(samples.Counter(5, 2, 20))
	for _, fuel := range []int{0, 10, api.MaxFuel} {
		first, e := decide.Text(s, 12, fuel)
		if again, f := decide.Text(s, 12, fuel); first != again || e != f || e != api.OK {
			t.Errorf("%q %d, and then %q %d", first, e, again, f)
		}
	}
}
