package gates_test

import (
	"math"
	"slices"
	"testing"

	"latchwork/api"
	"latchwork/gates"
	"latchwork/samples"
)

// wrong: graphs that do not pass, and what is told of them.
func wrong() []struct {
	g    api.Graph
	want api.Errno
} {
	of := func(ands ...[2]int) api.Graph { return api.Graph{Ins: 3, Ands: ands} }
	return []struct {
		g    api.Graph
		want api.Errno
	}{
		{api.Graph{Ins: -1}, api.ErrRange},
		{api.Graph{Ins: 1001}, api.ErrRange},
		{api.Graph{Ins: math.MinInt}, api.ErrRange},
		{api.Graph{Ins: math.MaxInt}, api.ErrRange},
		// Not rising.
		{of([2]int{4, 2}), api.ErrState},
		{of([2]int{4, 4}), api.ErrState},
		{of([2]int{7, 2}), api.ErrState},
		// Literals 0 and 1.
		{of([2]int{0, 2}), api.ErrState},
		{of([2]int{1, 2}), api.ErrState},
		{of([2]int{0, 1}), api.ErrState},
		{of([2]int{0, 0}), api.ErrState},
		// Nodes that are not ahead, or none.
		{of([2]int{2, 8}), api.ErrState},
		{of([2]int{2, 9}), api.ErrState},
		{of([2]int{8, 10}), api.ErrState},
		{of([2]int{2, 4}, [2]int{2, 10}), api.ErrState},
		{of([2]int{2, 10}, [2]int{2, 4}), api.ErrState},
		{of([2]int{2, math.MaxInt}), api.ErrState},
		{of([2]int{-1, 4}), api.ErrState},
		{of([2]int{-4, -2}), api.ErrState},
		{of([2]int{math.MinInt, 4}), api.ErrState},
		{of([2]int{2, -1}), api.ErrState},
		// Both of one node.
		{of([2]int{2, 3}), api.ErrState},
		{of([2]int{2, 4}, [2]int{8, 9}), api.ErrState},
		// The same twice.
		{of([2]int{2, 4}, [2]int{2, 4}), api.ErrTwice},
		{of([2]int{2, 4}, [2]int{2, 5}, [2]int{8, 10}, [2]int{2, 5}), api.ErrTwice},
		// The first one that is named.
		{api.Graph{Ins: -1, Ands: [][2]int{{2, 4}, {2, 4}}}, api.ErrRange},
		{api.Graph{Ins: 1001, Ands: make([][2]int, api.MaxGates+1)}, api.ErrRange},
		{api.Graph{Ins: 1000, Ands: make([][2]int, api.MaxGates+1)}, api.ErrMany},
		{api.Graph{Ins: 1000, Ands: make([][2]int, api.MaxGates)}, api.ErrState},
		{of([2]int{2, 4}, [2]int{2, 4}, [2]int{4, 2}), api.ErrState},
		{of([2]int{4, 2}, [2]int{4, 2}), api.ErrState},
	}
}

// F1, P1: what is told of graphs that do not pass; by all calls, ahead of what else is wrong, and nothing with it.
func TestWrongGraphs(t *testing.T) {
	for i, x := range wrong() {
		if e := gates.Check(x.g); e != x.want {
			t.Errorf("%d: %d, want %d", i, e, x.want)
		}
		for _, literal := range []int{0, -1, math.MaxInt} {
			if g, n, e := gates.And(x.g, literal, 1); e != x.want || n != 0 || g.Ins != 0 || len(g.Ands) > 0 {
				t.Errorf("%d, And of %d: %v %d %d, want %d", i, literal, g, n, e, x.want)
			}
			if v, e := gates.Eval(x.g, nil, []int{literal}); e != x.want || len(v) > 0 {
				t.Errorf("%d, %d told: %v %d, want %d", i, literal, v, e, x.want)
			}
		}
	}
}

// F1: graphs that pass, at the edges.
func TestGraphsThatPass(t *testing.T) {
	for _, g := range []api.Graph{
		{},
		{Ands: [][2]int{}},
		{Ins: 1},
		{Ins: 1000},
		{Ins: 2, Ands: [][2]int{{2, 4}}},
		{Ins: 2, Ands: [][2]int{{3, 5}}},
		{Ins: 2, Ands: [][2]int{{2, 4}, {2, 5}, {3, 4}, {3, 5}}},
		{Ins: 2, Ands: [][2]int{{2, 4}, {4, 7}, {7, 9}, {2, 11}}},
		{Ins: 1000, Ands: [][2]int{{2, 2000}, {2001, 2002}, {2003, 2004}}},
	} {
		if e := gates.Check(g); e != api.OK {
			t.Errorf("%v: %d", g, e)
		}
	}
}

// F2: the document's example, and lines by hand, one behind the other.
func TestAndByHand(t *testing.T) {
	g := api.Graph{Ins: 2}
	for _, x := range []struct{ a, b, want, ands int }{
		{2, 4, 6, 1}, // the document's: node 3
		{4, 2, 6, 1},
		{0, 0, 0, 1}, {0, 1, 0, 1}, {1, 0, 0, 1}, {1, 1, 1, 1},
		{0, 7, 0, 1}, {7, 0, 0, 1}, {1, 7, 7, 1}, {7, 1, 7, 1}, {1, 4, 4, 1},
		{5, 5, 5, 1}, {6, 6, 6, 1}, {4, 5, 0, 1}, {5, 4, 0, 1}, {7, 6, 0, 1},
		{5, 2, 8, 2}, {2, 5, 8, 2}, {9, 7, 10, 3}, {7, 9, 10, 3},
		{11, 2, 12, 4}, {12, 2, 14, 5}, // nothing is said of what follows from more than two literals
	} {
		y, n, e := gates.And(g, x.a, x.b)
		if e != api.OK || n != x.want || y.Ins != 2 || len(y.Ands) != x.ands {
			t.Errorf("%d and %d: %v %d %d, want %d", x.a, x.b, y, n, e, x.want)
		}
		g = y
	}
	if !slices.Equal(g.Ands, [][2]int{{2, 4}, {2, 5}, {7, 9}, {2, 11}, {2, 12}}) {
		t.Errorf("%v", g)
	}
}

// F1, F2, P1: literals that are none, whatever the other one is.
func TestAndOfNone(t *testing.T) {
	for _, x := range []struct {
		g    api.Graph
		last int
	}{{api.Graph{}, 1}, {api.Graph{Ins: 2}, 5}, {api.Graph{Ins: 2, Ands: [][2]int{{2, 4}}}, 7}} {
		for _, none := range []int{math.MinInt, -2, -1, x.last + 1, x.last + 2, math.MaxInt} {
			for _, other := range []int{0, 1, x.last, none} {
				for _, pair := range [][2]int{{none, other}, {other, none}} {
					if g, n, e := gates.And(x.g, pair[0], pair[1]); e != api.ErrNone || n != 0 || g.Ins != 0 || len(g.Ands) > 0 {
						t.Errorf("%v, %v: %v %d %d", x.g, pair, g, n, e)
					}
				}
			}
		}
		if _, n, e := gates.And(x.g, x.last, x.last); n != x.last || e != api.OK {
			t.Errorf("%v, the last one: %d %d", x.g, n, e)
		}
	}
}

// F1, F2, P1: no And goes beyond the bound; those that are there, or are none, do.
func TestAndAtTheBound(t *testing.T) {
	g := samples.Broad(api.MaxGates)
	if e := gates.Check(g); e != api.OK || len(g.Ands) != api.MaxGates {
		t.Fatalf("%d Ands: %d", len(g.Ands), e)
	}
	last := 2 * (1000 + api.MaxGates)
	for _, x := range []struct {
		a, b, want int
		e          api.Errno
	}{
		{last, 2, 0, api.ErrMany},
		{last + 1, last - 1, 0, api.ErrMany},
		{last + 2, 2, 0, api.ErrNone},
		{4, 2, 2002, api.OK},
		{last, 1, last, api.OK},
		{last, last + 1, 0, api.OK},
	} {
		y, n, e := gates.And(g, x.a, x.b)
		if e != x.e || n != x.want || e != api.OK && (y.Ins != 0 || len(y.Ands) > 0) || e == api.OK && len(y.Ands) != api.MaxGates {
			t.Errorf("%d and %d: %d Ands, %d %d", x.a, x.b, len(y.Ands), n, e)
		}
	}
	g.Ands = g.Ands[:api.MaxGates-1]
	if y, n, e := gates.And(g, last-2, 2); e != api.OK || n != last || len(y.Ands) != api.MaxGates {
		t.Errorf("the last one that may be: %d Ands, %d %d", len(y.Ands), n, e)
	}
	if v, e := gates.Eval(g, slices.Repeat([]bool{true}, 1000), []int{2, 2002, 2003, last - 2}); e != api.OK || len(v) != 4 || !v[0] || !v[1] || v[2] {
		t.Errorf("told: %v %d", v, e)
	}
}

// F3: lines by hand.
func TestEvalByHand(t *testing.T) {
	g := api.Graph{Ins: 2, Ands: [][2]int{{2, 4}, {3, 5}, {7, 9}}} // node 5: one of both, not both
	for _, x := range []struct {
		ins  []bool
		want []bool // of literals 0, 1, 2, 3, 4, 6, 8, 10, 11, 10
	}{
		{[]bool{false, false}, []bool{false, true, false, true, false, false, true, false, true, false}},
		{[]bool{true, false}, []bool{false, true, true, false, false, false, false, true, false, true}},
		{[]bool{false, true}, []bool{false, true, false, true, true, false, false, true, false, true}},
		{[]bool{true, true}, []bool{false, true, true, false, true, true, false, false, true, false}},
	} {
		if v, e := gates.Eval(g, x.ins, []int{0, 1, 2, 3, 4, 6, 8, 10, 11, 10}); e != api.OK || !slices.Equal(v, x.want) {
			t.Errorf("%v: %v %d", x.ins, v, e)
		}
	}
	if v, e := gates.Eval(api.Graph{}, nil, []int{1, 0}); e != api.OK || !slices.Equal(v, []bool{true, false}) {
		t.Errorf("without Ins: %v %d", v, e)
	}
	if v, e := gates.Eval(g, []bool{true, true}, nil); e != api.OK || len(v) > 0 {
		t.Errorf("no literals: %v %d", v, e)
	}
}

// F1, F3, P1: that a literal is none comes ahead of how many Ins are told; nothing with an error.
func TestEvalRefuses(t *testing.T) {
	g := api.Graph{Ins: 2, Ands: [][2]int{{2, 4}}}
	for _, x := range []struct {
		ins  []bool
		lits []int
		want api.Errno
	}{
		{nil, nil, api.ErrForm},
		{make([]bool, 1), []int{0}, api.ErrForm},
		{make([]bool, 3), []int{7}, api.ErrForm},
		{make([]bool, 2), []int{8}, api.ErrNone},
		{make([]bool, 2), []int{0, 1, 2, -1}, api.ErrNone},
		{make([]bool, 2), []int{math.MinInt}, api.ErrNone},
		{make([]bool, 2), []int{math.MaxInt, 2}, api.ErrNone},
		{nil, []int{8}, api.ErrNone},
		{make([]bool, 3), []int{7, -1}, api.ErrNone},
	} {
		if v, e := gates.Eval(g, x.ins, x.lits); e != x.want || len(v) > 0 {
			t.Errorf("%v, %v: %v %d, want %d", x.ins, x.lits, v, e, x.want)
		}
	}
}

// isSo: what a literal is, from it back to the Ins.
func isSo(g api.Graph, ins []bool, literal int) bool {
	so, node := false, literal/2
	switch {
	case node > g.Ins:
		pair := g.Ands[node-g.Ins-1]
		so = isSo(g, ins, pair[0]) && isSo(g, ins, pair[1])
	case node > 0:
		so = ins[node-1]
	}
	return so == (literal%2 == 0)
}

// allLiterals of a graph.
func allLiterals(g api.Graph) []int {
	var all []int
	for literal := range 2 * (1 + g.Ins + len(g.Ands)) {
		all = append(all, literal)
	}
	return all
}

// F3: drawn graphs, by all that their Ins may be.
func TestEvalOfDrawnGraphs(t *testing.T) {
	d := new(samples.Draw)
	for range 200 {
		g := d.Graph(d.Below(5), d.Below(30))
		lits := allLiterals(g)
		for _, ins := range samples.Values(g.Ins) {
			v, e := gates.Eval(g, ins, lits)
			if e != api.OK || len(v) != len(lits) {
				t.Fatalf("%v, %v: %v %d", g, ins, v, e)
			}
			for i, literal := range lits {
				if v[i] != isSo(g, ins, literal) {
					t.Fatalf("%v, %v: %d is %v", g, ins, literal, v[i])
				}
			}
		}
	}
}

// made: which literal F2 asks for, and whether an And is added.
func made(g api.Graph, a, b int) (literal int, added bool) {
	if a > b {
		a, b = b, a
	}
	switch {
	case a == 0 || a != b && a/2 == b/2:
		return 0, false
	case a == 1 || a == b:
		return b, false
	}
	if i := slices.Index(g.Ands, [2]int{a, b}); i >= 0 {
		return 2 * (1 + g.Ins + i), false
	}
	return 2 * (1 + g.Ins + len(g.Ands)), true
}

// F2, F4: of all two literals of drawn graphs: a literal that is yes just if both are; the graph goes on passing, and what it had tells the same.
func TestAndOfDrawnGraphs(t *testing.T) {
	d := new(samples.Draw)
	for range 100 {
		g := d.Graph(d.Below(4), d.Below(8))
		lits := allLiterals(g)
		for _, a := range lits {
			for _, b := range lits {
				y, n, e := gates.And(g, a, b)
				want, added := made(g, a, b)
				if e != api.OK || n != want || y.Ins != g.Ins || (len(y.Ands) > len(g.Ands)) != added {
					t.Fatalf("%v, %d and %d: %v %d %d, want %d", g, a, b, y, n, e, want)
				}
				if e := gates.Check(y); e != api.OK || !slices.Equal(y.Ands[:len(g.Ands)], g.Ands) || len(y.Ands) > len(g.Ands)+1 {
					t.Fatalf("%v, %d and %d: %v %d", g, a, b, y, e)
				}
				for _, ins := range samples.Values(g.Ins) {
					was, _ := gates.Eval(g, ins, lits)
					is, e := gates.Eval(y, ins, append(slices.Clone(lits), n))
					if e != api.OK || !slices.Equal(is[:len(lits)], was) || is[len(lits)] != (was[a] && was[b]) {
						t.Fatalf("%v, %v, %d and %d: %v %d, was %v", y, ins, a, b, is, e, was)
					}
				}
			}
		}
	}
}

// F1, F4: And by And, for long: the graph goes on passing.
func TestAndsForLong(t *testing.T) {
	d := new(samples.Draw)
	g := api.Graph{Ins: 4}
	for range 2000 {
		lits := 2 * (1 + g.Ins + len(g.Ands))
		y, n, e := gates.And(g, d.Below(lits), d.Below(lits))
		if e != api.OK || n >= 2*(1+y.Ins+len(y.Ands)) {
			t.Fatalf("%d Ands: %d %d", len(g.Ands), n, e)
		}
		g = y
	}
	if e := gates.Check(g); e != api.OK || len(g.Ands) < 1000 {
		t.Errorf("%d Ands: %d", len(g.Ands), e)
	}
}

// F1, P1: any numbers; Check is F1, said once more.
func TestCheckAnyNumbers(t *testing.T) {
	d := new(samples.Draw)
	told := map[api.Errno]int{}
	for range 20000 {
		g := api.Graph{Ins: d.Below(4)}
		state, twice := false, false
		for i := range d.Below(4) {
			pair := [2]int{d.Below(9) - 1, d.Below(10)}
			if d.Below(3) > 0 {
				pair = [2]int{2 + d.Below(2), 4 + d.Below(2)}
			}
			rises, one := pair[0] < pair[1], pair[0] >= 0 && pair[0]/2 == pair[1]/2
			ahead := pair[0] >= 0 && max(pair[0], pair[1]) < 2*(1+g.Ins+i)
			state = state || !rises || one || !ahead || pair[0] < 2
			twice = twice || slices.Contains(g.Ands, pair)
			g.Ands = append(g.Ands, pair)
		}
		want := api.OK
		switch {
		case state:
			want = api.ErrState
		case twice:
			want = api.ErrTwice
		}
		told[want]++
		if e := gates.Check(g); e != want {
			t.Fatalf("%v: %d, want %d", g, e, want)
		}
	}
	if told[api.OK] < 1000 || told[api.ErrState] < 1000 || told[api.ErrTwice] < 500 {
		t.Errorf("told: %v", told)
	}
}

// P2, P3: what is handed in stays, spare room too; answers are new memory, also where nothing is added; the same each time.
func TestGatesAndMemory(t *testing.T) {
	long := [][2]int{{2, 4}, {3, 5}, {77, 77}, {78, 78}}
	was := slices.Clone(long)
	g := api.Graph{Ins: 2, Ands: long[:2]}
	ins, lits := []bool{true, true, false}, []int{6, 9, 77}
	for range 2 {
		for _, pair := range [][2]int{{7, 9}, {2, 4}, {0, 1}, {6, 6}} {
			y, n, e := gates.And(g, pair[0], pair[1])
			z, m, f := gates.And(g, pair[0], pair[1])
			if n != m || e != api.OK || f != api.OK || !slices.Equal(y.Ands, z.Ands) {
				t.Errorf("%v: %v %d, then %v %d", pair, y, n, z, m)
			}
			clear(y.Ands[:cap(y.Ands)])
			if !slices.Equal(long, was) || !slices.Equal(z.Ands[:2], was[:2]) {
				t.Fatalf("%v: a change of an answer is seen: %v %v", pair, long, z)
			}
		}
		v, e := gates.Eval(g, ins[:2], lits[:2])
		if e != api.OK || !slices.Equal(v, []bool{true, true}) {
			t.Errorf("%v %d", v, e)
		}
		clear(v)
		if !slices.Equal(ins, []bool{true, true, false}) || !slices.Equal(lits, []int{6, 9, 77}) || !slices.Equal(long, was) {
			t.Errorf("changed: %v %v %v", ins, lits, long)
		}
	}
	y, _, _ := gates.And(g, 7, 9)
	clear(long)
	if !slices.Equal(y.Ands, [][2]int{{2, 4}, {3, 5}, {7, 9}}) {
		t.Errorf("a change of what was handed in is seen: %v", y)
	}
}
