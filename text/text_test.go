package text_test

import (
	"math"
	"regexp"
	"slices"
	"strconv"
	"strings"
	"testing"

	"latchwork/api"
	"latchwork/model"
	"latchwork/samples"
	"latchwork/text"
)

// joined: lines, each with its line feed.
func joined(lines ...string) string { return strings.Join(lines, "\n") + "\n" }

// byHand: models and how they are written.
func byHand() (models []api.Model, texts []string) {
	add := func(m api.Model, lines ...string) {
		models, texts = append(models, m), append(texts, joined(lines...))
	}
	add(samples.Turn(), "0 const 1 0", "1 state 1", "2 not 1 1", "init 1 0", "next 1 2", "bad 1")
	add(samples.Kinds(),
		"0 const 4 10", "1 input 4", "2 state 4", "3 not 4 2", "4 neg 4 1", "5 and 4 3 2", "6 or 4 4 2", "7 xor 4 5 2",
		"8 add 4 6 2", "9 sub 4 7 2", "10 mul 4 8 2", "11 div 4 9 2", "12 rem 4 10 2", "13 shl 4 11 2", "14 shr 4 12 2",
		"15 eq 1 1 8", "16 less 1 1 9", "17 signed 1 1 10", "18 if 4 17 14 3", "19 join 8 18 2", "20 cut 3 19 5",
		"21 wide 4 20", "22 spread 8 20", "init 2 0", "next 2 21", "bad 15", "bad 16", "hold 17")
	add(samples.Lever(),
		"0 input 2", "1 state 2", "2 state 1", "3 add 2 1 0", "4 less 1 0 1", "5 xor 1 2 4", "6 const 2 3", "7 neg 2 6",
		"8 input 1", "9 if 2 8 3 1", "10 state 3", "11 join 3 1 2", "12 cut 1 10 2", "13 eq 1 9 6", "14 signed 1 1 0",
		"15 not 1 14", "16 const 1 0", "17 join 3 6 16", "18 spread 8 10", "19 wide 8 10", "20 eq 1 18 19",
		"init 10 17", "init 1 7", "next 2 5", "next 10 11", "next 1 9", "bad 13", "bad 20", "hold 15", "hold 12")
	add(api.Model{Nodes: []api.Node{{Kind: api.KindConst, Width: 1}}, Bads: []int{0, 0}, Holds: []int{0, 0, 0}},
		"0 const 1 0", "bad 0", "bad 0", "hold 0", "hold 0", "hold 0")
	return models, texts
}

// C1, C2, C3: models by hand, both ways.
func TestPrintAndParseByHand(t *testing.T) {
	models, texts := byHand()
	models, texts = append(models, api.Model{}), append(texts, "")
	for i, m := range models {
		if s, e := text.Print(m); e != api.OK || s != texts[i] {
			t.Errorf("printed: %q %d, want %q", s, e, texts[i])
		}
		if got, n, e := text.Parse(texts[i]); e != api.OK || n != 0 || !samples.Same(got, m) {
			t.Errorf("%q parsed: %v %d %d", texts[i], got, n, e)
		}
	}
}

// C2, P1: what does not pass its check is not printed, and nothing but the error is told.
func TestPrintTellsCheck(t *testing.T) {
	faulty, errors := samples.Faulty()
	for i, m := range faulty {
		if s, e := text.Print(m); e != errors[i] || s != "" {
			t.Errorf("%v: %q %d, want %d", m, s, e, errors[i])
		}
	}
	wild := samples.Turn()
	for _, n := range []int{math.MinInt, -1, 3, math.MaxInt} {
		wild.Bads[0] = n
		if s, e := text.Print(wild); e != api.ErrNone || s != "" {
			t.Errorf("bad %d: %q %d", n, s, e)
		}
	}
}

type refusal struct {
	text string
	line int
	want api.Errno
}

// wrongNodes: what may be wrong of nodes' lines.
func wrongNodes() []refusal {
	return []refusal{
		{"\n", 1, api.ErrForm},
		{"x", 1, api.ErrForm},
		{" ", 1, api.ErrForm},
		{"0\n", 1, api.ErrForm},
		{"0 const\n", 1, api.ErrForm},
		{"0 const 1\n", 1, api.ErrForm},
		{"0 const 1 0", 1, api.ErrForm},
		{"0 const 1 0 0\n", 1, api.ErrForm},
		{" 0 const 1 0\n", 1, api.ErrForm},
		{"0  const 1 0\n", 1, api.ErrForm},
		{"0 const  1 0\n", 1, api.ErrForm},
		{"0 const 1 0 \n", 1, api.ErrForm},
		{"0\tconst 1 0\n", 1, api.ErrForm},
		{"0 const 1 0\r\n", 1, api.ErrForm},
		{"0 const 1 0\n\n", 2, api.ErrForm},
		{"\n0 const 1 0\n", 1, api.ErrForm},
		{"0 Const 1 0\n", 1, api.ErrForm},
		{"0 constant 1 0\n", 1, api.ErrForm},
		{"0 con 1 0\n", 1, api.ErrForm},
		{"0 1 1 0\n", 1, api.ErrForm},
		{"0  1 0\n", 1, api.ErrForm},
		{"0  1\n", 1, api.ErrForm},
		{"0 init 1\n", 1, api.ErrForm},
		{"const 0 1 0\n", 1, api.ErrForm},
		{"1 const 1 0\n", 1, api.ErrForm},
		{"-0 const 1 0\n", 1, api.ErrForm},
		{"00 const 1 0\n", 1, api.ErrForm},
		{"0 const 1 -1\n", 1, api.ErrForm},
		{"0 const 1 +1\n", 1, api.ErrForm},
		{"0 const 1 0x0\n", 1, api.ErrForm},
		{"0 const 01 0\n", 1, api.ErrForm},
		{"0 const 1 00\n", 1, api.ErrForm},
		{"0 const 8 \u0663\n", 1, api.ErrForm},
		{"0 const 8 \xff\n", 1, api.ErrForm},
		{"0 input 1 0\n", 1, api.ErrForm},
		{"0 state 1 0\n", 1, api.ErrForm},
		{"0 input 1\n1 not 1 0 0\n", 2, api.ErrForm},
		{"0 input 1\n1 and 1 0\n", 2, api.ErrForm},
		{"0 input 1\n1 and 1 0 0 0\n", 2, api.ErrForm},
		{"0 input 1\n1 if 1 0 0\n", 2, api.ErrForm},
		{"0 input 1\n1 if 1 0 0 0 0\n", 2, api.ErrForm},
		{"0 input 1\n1 cut 1 0\n", 2, api.ErrForm},
		{"0 input 1\n1 cut 1 0 0 0\n", 2, api.ErrForm},
		{"0 input 1\n0 input 1\n", 2, api.ErrForm},
		{"0 input 1\n2 input 1\n", 2, api.ErrForm},
		{"0 input 1\n1 input 1", 2, api.ErrForm},
		{"0 input 1\n1 input 1\n1 input 1\n2 foo\n", 3, api.ErrForm},
	}
}

// wrongOthers: what may be wrong of other lines, and of numbers; and what the check of a model says.
func wrongOthers() []refusal {
	return []refusal{
		{"0 input 1\nbad\n", 2, api.ErrForm},
		{"0 input 1\nbad \n", 2, api.ErrForm},
		{"0 input 1\nbad 0 0\n", 2, api.ErrForm},
		{"0 input 1\nbad 0", 2, api.ErrForm},
		{"0 input 1\nbad 00\n", 2, api.ErrForm},
		{"0 input 1\nbad -1\n", 2, api.ErrForm},
		{"0 input 1\nBad 0\n", 2, api.ErrForm},
		{"0 input 1\n bad 0\n", 2, api.ErrForm},
		{"0 input 1\nbad 0\nbad x\n", 3, api.ErrForm},
		{"0 input 1\nhold\n", 2, api.ErrForm},
		{"0 input 1\nhold 0 0\n", 2, api.ErrForm},
		{"0 input 1\nhold 0\nhold 0x\n", 3, api.ErrForm},
		{"0 state 1\nnext 0\n", 2, api.ErrForm},
		{"0 state 1\nnext 0 0 0\n", 2, api.ErrForm},
		{"0 state 1\nnext 0  0\n", 2, api.ErrForm},
		{"0 state 1\nnext 0 0\nnext\n", 3, api.ErrForm},
		{"0 state 1\ninit 0\nnext 0 0\n", 2, api.ErrForm},
		{"0 state 1\ninit 0 0 0\nnext 0 0\n", 2, api.ErrForm},
		{"0 state 1\ninit 0 y\nnext 0 0\n", 2, api.ErrForm},
		// A node's line behind one that is none; a sort that goes back.
		{"0 state 1\ninit 0 0\n1 input 1\n", 3, api.ErrForm},
		{"0 state 1\nnext 0 0\n1 input 1\n", 3, api.ErrForm},
		{"0 input 1\nbad 0\n1 input 1\n", 3, api.ErrForm},
		{"0 input 1\nhold 0\n1 input 1\n", 3, api.ErrForm},
		{"0 state 1\nnext 0 0\ninit 0 0\n", 3, api.ErrForm},
		{"0 state 1\nbad 0\ninit 0 0\n", 3, api.ErrForm},
		{"0 state 1\nhold 0\ninit 0 0\n", 3, api.ErrForm},
		{"0 state 1\nbad 0\nnext 0 0\n", 3, api.ErrForm},
		{"0 state 1\nhold 0\nnext 0 0\n", 3, api.ErrForm},
		{"0 state 1\nnext 0 0\nhold 0\nbad 0\n", 4, api.ErrForm},
		{"0 state 1\nnext 0 0\nbad 0\nhold 0\nbad 0\n", 5, api.ErrForm},
		// Numbers of 9 digits, and of 10.
		{"0 input 999999999\n", 0, api.ErrRange},
		{"0 input 1000000000\n", 1, api.ErrForm},
		{"0 const 1 123456789\n", 0, api.ErrRange},
		{"0 const 1 1234567890\n", 1, api.ErrForm},
		{"0 const 1 0\n1 not 1 999999999\n", 0, api.ErrState},
		{"0 const 1 0\n1 not 1 9999999999\n", 2, api.ErrForm},
		{"0 const 1 0\n1 cut 1 0 999999999\n", 0, api.ErrForm},
		{"0 const 1 0\n1 cut 1 0 18446744073709551616\n", 2, api.ErrForm},
		{"bad 999999999\n", 0, api.ErrNone},
		{"bad 1000000000\n", 1, api.ErrForm},
		{"hold 1000000000\n", 1, api.ErrForm},
		{"init 1000000000 0\n", 1, api.ErrForm},
		{"next 0 1000000000\n", 1, api.ErrForm},
		{"0 const 1 0\nbad 0000000000\n", 2, api.ErrForm},
		// What Check says, if all lines are some.
		{"0 const 1 2\n", 0, api.ErrRange},
		{"0 const 9 0\n", 0, api.ErrRange},
		{"0 not 1 0\n", 0, api.ErrState},
		{"0 state 1\n", 0, api.ErrNone},
		{"0 input 2\nbad 0\n", 0, api.ErrForm},
		{"0 input 1\nbad 1\n", 0, api.ErrNone},
		{"0 input 1\nnext 0 0\n", 0, api.ErrNone},
		{"0 state 1\nnext 0 0\nnext 0 0\n", 0, api.ErrTwice},
		{"0 state 1\ninit 0 0\nnext 0 0\n", 0, api.ErrState},
		{"0 input 7\n", 0, api.ErrMany},
		{"0 const 1 2\nbad\n", 2, api.ErrForm},
	}
}

// C2, P1: the line that is wrong, and else what the check says; no model with it.
func TestParseRefuses(t *testing.T) {
	for _, x := range slices.Concat(wrongNodes(), wrongOthers()) {
		if m, n, e := text.Parse(x.text); n != x.line || e != x.want || !samples.Same(m, api.Model{}) {
			t.Errorf("%q: %v %d %d, want %d %d", x.text, m, n, e, x.line, x.want)
		}
	}
}

// constants: lines of so many nodes.
func constants(n int) string {
	var b strings.Builder
	for i := range n {
		b.WriteString(strconv.Itoa(i) + " const 1 0\n")
	}
	return b.String()
}

// C2: 10000 bytes, and one more; 80 nodes, and one more.
func TestParseLongTexts(t *testing.T) {
	short, long := strings.Repeat("next 0 0\n", 1110), strings.Repeat("next 0 0\n", 1109)
	for _, x := range []refusal{
		{strings.Repeat("x", 10000), 1, api.ErrForm},
		{strings.Repeat("x", 10001), 0, api.ErrMany},
		{strings.Repeat("\n", 10001), 0, api.ErrMany},
		{strings.Repeat("\u00e9", 5000), 1, api.ErrForm},
		{strings.Repeat("\u00e9", 5001), 0, api.ErrMany},
		{short + "next 10 0\n", 0, api.ErrNone},                 // 10000 bytes
		{long + "next 10 0\nnext 10 0\n", 0, api.ErrMany},       // 10001
		{short + "next 10 0 ", 1111, api.ErrForm},               // 10000
		{short + "next 10 0", 1111, api.ErrForm},                // 9999
		{short + "next 10 0\n\n", 0, api.ErrMany},               // 10001
		{constants(80) + "bad 80\n", 0, api.ErrNone},            // a node too few
		{constants(81), 0, api.ErrMany},                         // a node too many
		{constants(81) + "x", 82, api.ErrForm},                  // and a wrong line behind them
		{strings.Repeat("bad 0\n", 9), 0, api.ErrMany},          // a Bad too many
		{strings.Repeat("hold 0\n", 9) + "\n", 10, api.ErrForm}, // and a wrong line behind them
	} {
		if m, n, e := text.Parse(x.text); n != x.line || e != x.want || !samples.Same(m, api.Model{}) {
			t.Errorf("%d bytes, %.30q: %d %d, want %d %d", len(x.text), x.text, n, e, x.line, x.want)
		}
	}
	if m, n, e := text.Parse(constants(80)); n != 0 || e != api.OK || len(m.Nodes) != 80 {
		t.Errorf("80 nodes: %d of them, %d %d", len(m.Nodes), n, e)
	}
}

const (
	number   = `(?:0|[1-9][0-9]{0,8})`
	nodeForm = `\A(N) (?:(?:input|state) N|(?:const|not|neg|wide|spread) N N|(?:and|or|xor|add|sub|mul|div|rem|shl|shr|eq|less|signed|join|cut) N N N|if N N N N)\z`
)

// lineForms: one for each sort of lines, in their order.
func lineForms() []*regexp.Regexp {
	var forms []*regexp.Regexp
	for _, form := range []string{nodeForm, `\Ainit N N\z`, `\Anext N N\z`, `\Abad N\z`, `\Ahold N\z`} {
		forms = append(forms, regexp.MustCompile(strings.ReplaceAll(form, "N", number)))
	}
	return forms
}

// wrongLine is C2's, said once more: the first line that is none of those, or 0.
func wrongLine(forms []*regexp.Regexp, s string) int {
	pieces := strings.SplitAfter(s, "\n")
	if pieces[len(pieces)-1] == "" {
		pieces = pieces[:len(pieces)-1]
	}
	last := 0
	for i, piece := range pieces {
		line, ended := strings.CutSuffix(piece, "\n")
		sort := slices.IndexFunc(forms, func(form *regexp.Regexp) bool { return form.MatchString(line) })
		if !ended || sort < last {
			return i + 1
		}
		if found := forms[0].FindStringSubmatch(line); sort == 0 && found[1] != strconv.Itoa(i) {
			return i + 1
		}
		last = sort
	}
	return 0
}

// C2, C3: texts that are a little other than printed ones: what is parsed is printed just so, and else the line is told.
func TestNothingElseIsParsed(t *testing.T) {
	d, forms := new(samples.Draw), lineForms()
	bits := []string{"", " ", "\n", "0", "1", "00", "9", "x", "bad 0\n", "hold 0\n", "init 1 0\n", "next 1 2\n", "if", "not", "\x00", "-"}
	_, texts := byHand()
	parsed := 0
	for range 40000 {
		s := texts[d.Below(len(texts))]
		for range 1 + d.Below(2) {
			s = d.Altered(s, bits)
		}
		m, n, e := text.Parse(s)
		if want := wrongLine(forms, s); n != want || n > 0 && e != api.ErrForm {
			t.Fatalf("%q: %d %d, want line %d", s, n, e, want)
		}
		if e != api.OK {
			if !samples.Same(m, api.Model{}) {
				t.Fatalf("%q: %v %d %d", s, m, n, e)
			}
			continue
		}
		parsed++
		if again, e := text.Print(m); e != api.OK || again != s {
			t.Fatalf("%q is parsed, and printed as %q %d", s, again, e)
		}
	}
	if parsed < 500 {
		t.Errorf("just %d were parsed", parsed)
	}
}

// C3: what is printed is parsed as it was.
func TestDrawnModelsThereAndBack(t *testing.T) {
	d, forms := new(samples.Draw), lineForms()
	for range 2000 {
		m := d.Model(d.Below(api.MaxInputBits+1), d.Below(api.MaxStateBits+1), d.Below(60))
		s, e := text.Print(m)
		if e != api.OK || wrongLine(forms, s) != 0 {
			t.Fatalf("%v: %q %d", m, s, e)
		}
		if got, n, e := text.Parse(s); e != api.OK || n != 0 || !samples.Same(got, m) {
			t.Fatalf("%q: %v %d %d, want %v", s, got, n, e, m)
		}
	}
}

// P1: any bytes.
func TestParseAnyBytes(t *testing.T) {
	d, forms := new(samples.Draw), lineForms()
	for range 20000 {
		bytes := make([]byte, d.Below(12))
		for i := range bytes {
			bytes[i] = byte(d.Below(256))
		}
		s := string(bytes)
		m, n, e := text.Parse(s)
		if s != "" && (e != api.ErrForm || n != wrongLine(forms, s)) || !samples.Same(m, api.Model{}) {
			t.Fatalf("%q: %v %d %d", s, m, n, e)
		}
	}
}

// P2, P3: what is handed in stays; lists of an answer are the caller's, and share nothing; the same each time.
func TestTextsAndMemory(t *testing.T) {
	models, texts := byHand()
	for i := range models {
		m, stayed := samples.Roomy(models[i])
		if s, e := text.Print(m); e != api.OK || s != texts[i] || !stayed() {
			t.Errorf("%q: %q %d, stayed: %v", texts[i], s, e, stayed())
		}
		one, _, _ := text.Parse(texts[i])
		two, _, _ := text.Parse(texts[i])
		one.Bads = append(one.Bads[:0], slices.Repeat([]int{9}, cap(one.Bads))...)
		one.Inits = append(one.Inits[:0], slices.Repeat([]api.Pair{{State: 9}}, cap(one.Inits))...)
		for j := range one.Nodes {
			one.Nodes[j] = api.Node{}
		}
		if !slices.Equal(one.Holds, models[i].Holds) || !slices.Equal(one.Nexts, models[i].Nexts) {
			t.Errorf("%q: a change of Bads or Inits is seen: %v", texts[i], one)
		}
		if !samples.Same(two, models[i]) {
			t.Errorf("%q: a change of an answer is seen in another one: %v", texts[i], two)
		}
		if e := model.Check(two); e != api.OK {
			t.Errorf("%q: what is parsed does not pass: %d", texts[i], e)
		}
	}
	empty := api.Model{Nodes: []api.Node{}, Inits: []api.Pair{}, Nexts: []api.Pair{}, Bads: []int{}, Holds: []int{}}
	if s, e := text.Print(empty); s != "" || e != api.OK {
		t.Errorf("empty lists: %q %d", s, e)
	}
}
