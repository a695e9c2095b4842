package trace_test

import (
	"math"
	"regexp"
	"slices"
	"strings"
	"testing"

	"latchwork/api"
	"latchwork/samples"
	"latchwork/trace"
)

func same(a, b api.Trace) bool {
	return slices.Equal(a.Start, b.Start) && slices.EqualFunc(a.Inputs, b.Inputs, slices.Equal)
}

// most: a trace that has as much as may be printed.
func most() api.Trace {
	x := api.Trace{Start: slices.Repeat([]int{255}, 20)}
	for range 41 {
		x.Inputs = append(x.Inputs, slices.Repeat([]int{255}, 20))
	}
	return x
}

// byHand: traces and how they are written.
func byHand() (traces []api.Trace, texts []string) {
	add := func(x api.Trace, text string) { traces, texts = append(traces, x), append(texts, text) }
	add(api.Trace{Start: []int{0}, Inputs: [][]int{nil, nil}}, "start 0\nin\nin\n") // the document's
	add(api.Trace{}, "start\n")
	add(api.Trace{Start: []int{}, Inputs: [][]int{}}, "start\n")
	add(api.Trace{Start: []int{7}}, "start 7\n")
	add(api.Trace{Inputs: [][]int{{}}}, "start\nin\n")
	add(api.Trace{Start: []int{0, 10, 255}, Inputs: [][]int{{1, 0}, {}, {100}}}, "start 0 10 255\nin 1 0\nin\nin 100\n")
	add(most(), "start"+strings.Repeat(" 255", 20)+"\n"+strings.Repeat("in"+strings.Repeat(" 255", 20)+"\n", 41))
	return traces, texts
}

// E3: traces by hand, both ways; of whatever model.
func TestPrintAndParseByHand(t *testing.T) {
	traces, texts := byHand()
	for i, x := range traces {
		if s, e := trace.Print(x); e != api.OK || s != texts[i] {
			t.Errorf("printed: %q %d, want %q", s, e, texts[i])
		}
		if got, e := trace.Parse(texts[i]); e != api.OK || !same(got, x) {
			t.Errorf("%q parsed: %v %d", texts[i], got, e)
		}
	}
}

// E3, P1: what is not printed; that there is too much comes ahead of numbers that may not be.
func TestPrintRefuses(t *testing.T) {
	for i, x := range []struct {
		x    api.Trace
		want api.Errno
	}{
		{api.Trace{Inputs: make([][]int, 42)}, api.ErrMany},
		{api.Trace{Start: make([]int, 21)}, api.ErrMany},
		{api.Trace{Inputs: [][]int{make([]int, 21)}}, api.ErrMany},
		{api.Trace{Inputs: [][]int{nil, nil, make([]int, 1000)}}, api.ErrMany},
		{api.Trace{Start: []int{256}}, api.ErrRange},
		{api.Trace{Start: []int{0, -1}}, api.ErrRange},
		{api.Trace{Start: []int{math.MinInt}}, api.ErrRange},
		{api.Trace{Inputs: [][]int{{0}, {1, math.MaxInt, 2}}}, api.ErrRange},
		{api.Trace{Inputs: [][]int{{0}, {0, 256}}}, api.ErrRange},
		{api.Trace{Start: []int{256}, Inputs: make([][]int, 42)}, api.ErrMany},
		{api.Trace{Start: []int{-1}, Inputs: [][]int{{256}, make([]int, 21)}}, api.ErrMany},
		{api.Trace{Start: slices.Repeat([]int{-1}, 21)}, api.ErrMany},
	} {
		if s, e := trace.Print(x.x); e != x.want || s != "" {
			t.Errorf("%d: %q %d, want %d", i, s, e, x.want)
		}
	}
}

// E3, P1: texts that no trace is printed as.
func TestParseRefuses(t *testing.T) {
	_, texts := byHand()
	longest := texts[len(texts)-1]
	for _, s := range []string{
		"", "\n", " ", "s", "star\n", "start", "starts\n", "Start\n", " start\n", "start \n", "start\r\n", "\nstart\n", "start\x00\n",
		"start 0", "start  0\n", "start 0 \n", "start\t0\n", "start0\n", "start 00\n", "start 01\n", "start -0\n", "start -1\n", "start +1\n",
		"start 256\n", "start 1000\n", "start 4294967296\n", "start 18446744073709551616\n", "start 0x1\n", "start 1e1\n", "start x\n", "start \u0661\n",
		"start" + strings.Repeat(" 0", 21) + "\n",
		"in\n", "in\nstart\n", "start\nstart\n", "start\nin", "start\nin\n\n", "start\n\nin\n", "start\nin\nx\n", "start\nin\nstart\n",
		"start\nin 256\n", "start\nin 0 -1\n", "start\nin  0\n", "start\nin 0 \n", "start\n in\n", "start\nIn\n", "start\ninn\n", "start\ni\n", "start in\n",
		"start\nin" + strings.Repeat(" 0", 21) + "\n", "start\n" + strings.Repeat("in\n", 42),
		longest + "\n", longest + "in\n", longest[:len(longest)-1], longest[1:],
		"start\n" + strings.Repeat("in\n", 100000), "start" + strings.Repeat(" ", 1<<20), strings.Repeat("\n", 1<<20),
	} {
		if x, e := trace.Parse(s); e != api.ErrForm || !same(x, api.Trace{}) {
			t.Errorf("%.40q: %v %d", s, x, e)
		}
	}
}

const number = `(?:0|[1-9][0-9]?|1[0-9][0-9]|2[0-4][0-9]|25[0-5])`

// form of a trace's text is E3's, said once more.
func form() *regexp.Regexp {
	return regexp.MustCompile(`\Astart(?: ` + number + `){0,20}\n(?:in(?: ` + number + `){0,20}\n){0,41}\z`)
}

// parsed: a text is parsed just if it has the form, and is printed so again; is it?
func parsed(t *testing.T, form *regexp.Regexp, s string) bool {
	t.Helper()
	x, e := trace.Parse(s)
	if e == api.OK != form.MatchString(s) || e != api.OK && (e != api.ErrForm || !same(x, api.Trace{})) {
		t.Fatalf("%q: %v %d", s, x, e)
	}
	if again, f := trace.Print(x); e == api.OK && (f != api.OK || again != s) {
		t.Fatalf("%q is parsed, and printed as %q %d", s, again, f)
	}
	return e == api.OK
}

// E3: texts that are a little other than printed ones.
func TestNothingElseIsParsed(t *testing.T) {
	d, form := new(samples.Draw), form()
	bits := []string{"", " ", "\n", "0", "1", "5", " 7", " 255", "in\n", "\nin", "in 3\n", "start\n", "start", "-", "x", "\r"}
	_, texts := byHand()
	good := 0
	for range 20000 {
		s := texts[d.Below(len(texts)-1)]
		for range 1 + d.Below(3) {
			s = d.Altered(s, bits)
		}
		if parsed(t, form, s) {
			good++
		}
	}
	if good < 500 {
		t.Errorf("just %d were parsed", good)
	}
}

// E3: the edges of how much may be.
func TestHowMuchIsParsed(t *testing.T) {
	form := form()
	for lines := range 45 {
		for numbers := range 23 {
			list := strings.Repeat(" 255", numbers)
			if good := parsed(t, form, "start\n"+strings.Repeat("in"+list+"\n", lines)); good != (lines <= 41 && (numbers <= 20 || lines == 0)) {
				t.Errorf("%d lines of %d numbers: %v", lines, numbers, good)
			}
			if good := parsed(t, form, "start"+list+"\n"+strings.Repeat("in\n", lines)); good != (lines <= 41 && numbers <= 20) {
				t.Errorf("start with %d numbers, and %d lines: %v", numbers, lines, good)
			}
		}
	}
}

// P1: any bytes.
func TestParseAnyBytes(t *testing.T) {
	d, form := new(samples.Draw), form()
	for range 20000 {
		bytes := []byte("start\n")[:d.Below(7)]
		for range d.Below(8) {
			bytes = append(bytes, byte(d.Below(256)))
		}
		parsed(t, form, string(bytes))
	}
}

// anyTrace that may be printed.
func anyTrace(d *samples.Draw) api.Trace {
	list := func() []int {
		var numbers []int
		for range d.Below(21) {
			numbers = append(numbers, d.Below(256))
		}
		return numbers
	}
	x := api.Trace{Start: list()}
	for range d.Below(42) {
		x.Inputs = append(x.Inputs, list())
	}
	return x
}

// E3: what is printed is parsed as it was.
func TestThereAndBack(t *testing.T) {
	d, form := new(samples.Draw), form()
	for range 500 {
		x := anyTrace(d)
		s, e := trace.Print(x)
		if e != api.OK || !parsed(t, form, s) {
			t.Fatalf("%v: %q %d", x, s, e)
		}
		if got, _ := trace.Parse(s); !same(got, x) {
			t.Fatalf("%q: %v, want %v", s, got, x)
		}
	}
	for n := range 256 {
		x := api.Trace{Start: []int{n}, Inputs: [][]int{{n, n}}}
		s, e := trace.Print(x)
		if got, f := trace.Parse(s); e != api.OK || f != api.OK || !same(got, x) {
			t.Errorf("%d: %q %d, %v %d", n, s, e, got, f)
		}
	}
}

// P2, P3: lists that are parsed share nothing, and are the caller's.
func TestParsedListsShareNothing(t *testing.T) {
	d := new(samples.Draw)
	for range 50 {
		x := anyTrace(d)
		s, _ := trace.Print(x)
		one, _ := trace.Parse(s)
		two, _ := trace.Parse(s)
		lists := append([][]int{one.Start}, one.Inputs...)
		want := append([][]int{x.Start}, x.Inputs...)
		for i, list := range lists {
			clear(list[:cap(list)])
			if !slices.EqualFunc(lists[i+1:], want[i+1:], slices.Equal) {
				t.Fatalf("%q: a change of list %d is seen in another one: %v", s, i, lists)
			}
		}
		if !same(two, x) {
			t.Fatalf("%q: a change of an answer is seen in another one: %v", s, two)
		}
	}
}
