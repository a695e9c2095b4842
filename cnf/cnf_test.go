package cnf_test

import (
	"fmt"
	"math"
	"slices"
	"strings"
	"testing"

	"latchwork/api"
	"latchwork/cnf"
	"latchwork/gates"
	"latchwork/samples"
)

func sameClauses(a, b api.Clauses) bool {
	return a.Vars == b.Vars && slices.EqualFunc(a.List, b.List, slices.Equal[[]int])
}

// wrong: clauses that do not pass, and what is told of them.
func wrong() []struct {
	c    api.Clauses
	want api.Errno
} {
	long, none := make([]int, api.MaxClause+1), []int{1, 0}
	of := func(list ...[]int) api.Clauses { return api.Clauses{Vars: 2, List: list} }
	many := make([][]int, api.MaxClauses+1)
	return []struct {
		c    api.Clauses
		want api.Errno
	}{
		{api.Clauses{Vars: -1}, api.ErrRange},
		{api.Clauses{Vars: api.MaxVars + 1}, api.ErrRange},
		{api.Clauses{Vars: math.MinInt}, api.ErrRange},
		{api.Clauses{Vars: math.MaxInt}, api.ErrRange},
		{api.Clauses{List: many}, api.ErrMany},
		{of(long), api.ErrMany},
		{of([]int{1}, nil, slices.Repeat([]int{-2}, api.MaxClause+1)), api.ErrMany},
		{of(none), api.ErrNone},
		{of([]int{0}), api.ErrNone},
		{of([]int{1, -2}, []int{2, 3}), api.ErrNone},
		{of([]int{-3}), api.ErrNone},
		{of([]int{1, 2, math.MinInt}), api.ErrNone},
		{of([]int{-math.MaxInt}), api.ErrNone},
		{of([]int{math.MaxInt}), api.ErrNone},
		{api.Clauses{List: [][]int{{1}}}, api.ErrNone},
		{api.Clauses{List: [][]int{{-1}}}, api.ErrNone},
		{api.Clauses{Vars: api.MaxVars, List: [][]int{{api.MaxVars + 1}}}, api.ErrNone},
		{api.Clauses{Vars: api.MaxVars, List: [][]int{{-api.MaxVars - 1}}}, api.ErrNone},
		// The first one that is named; clause by clause.
		{api.Clauses{Vars: -1, List: many}, api.ErrRange},
		{api.Clauses{Vars: -1, List: [][]int{none}}, api.ErrRange},
		{api.Clauses{Vars: 2, List: append(slices.Clone(many), none)}, api.ErrMany},
		{api.Clauses{Vars: 2, List: append([][]int{none}, many...)}, api.ErrMany},
		{of(none, long), api.ErrNone},
		{of(long, none), api.ErrMany},
	}
}

// H1, P1: what is told of clauses that do not pass, by all calls that get some, ahead of what else is wrong, and nothing with it.
func TestWrongClauses(t *testing.T) {
	for i, x := range wrong() {
		if e := cnf.Check(x.c); e != x.want {
			t.Errorf("%d: %d, want %d", i, e, x.want)
		}
		for _, values := range [][]bool{nil, {true, true}} {
			if holds, e := cnf.Holds(x.c, values); holds || e != x.want {
				t.Errorf("%d holds: %v %d, want %d", i, holds, e, x.want)
			}
		}
		if s, e := cnf.Print(x.c); s != "" || e != x.want {
			t.Errorf("%d printed: %q %d, want %d", i, s, e, x.want)
		}
	}
}

// H1: clauses that pass, at the edges.
func TestClausesThatPass(t *testing.T) {
	for i, c := range []api.Clauses{
		{},
		{List: [][]int{nil, {}}},
		{Vars: 1, List: [][]int{{1, -1}, {1, 1, 1}, {-1}, {-1}}},
		{Vars: api.MaxVars, List: [][]int{{api.MaxVars, -api.MaxVars}}},
		{Vars: 1, List: [][]int{slices.Repeat([]int{1}, api.MaxClause)}},
		{Vars: 1, List: make([][]int, api.MaxClauses)},
	} {
		if e := cnf.Check(c); e != api.OK {
			t.Errorf("%d: %d", i, e)
		}
	}
}

// H2: the document's example, and others by hand.
func TestOfByHand(t *testing.T) {
	both := api.Graph{Ins: 2, Ands: [][2]int{{2, 4}}}
	mixed := api.Graph{Ins: 3, Ands: [][2]int{{3, 4}, {7, 9}, {8, 10}}}
	three := [][]int{{-3, 1}, {-3, 2}, {3, -1, -2}}
	nine := [][]int{{-4, -1}, {-4, 2}, {4, 1, -2}, {-5, -3}, {-5, -4}, {5, 3, 4}, {-6, 4}, {-6, 5}, {6, -4, -5}}
	for _, x := range []struct {
		g     api.Graph
		roots []int
		want  api.Clauses
	}{
		{both, []int{6}, api.Clauses{Vars: 3, List: append(three[:3:3], []int{3})}}, // the document's: four clauses, of three variables
		{both, nil, api.Clauses{Vars: 3, List: three}},
		{both, []int{7, 2, 5, 7}, api.Clauses{Vars: 3, List: append(three[:3:3], []int{-3}, []int{1}, []int{-2}, []int{-3})}},
		{both, []int{1, 1}, api.Clauses{Vars: 3, List: three}},
		{both, []int{0, 1, 2, 0}, api.Clauses{Vars: 3, List: append(three[:3:3], nil, []int{1}, nil)}},
		{mixed, []int{13}, api.Clauses{Vars: 6, List: append(nine[:9:9], []int{-6})}},
		{api.Graph{}, nil, api.Clauses{}},
		{api.Graph{}, []int{1, 0}, api.Clauses{List: [][]int{{}}}},
		{api.Graph{Ins: 4}, []int{9, 2}, api.Clauses{Vars: 4, List: [][]int{{-4}, {1}}}},
	} {
		if c, e := cnf.Of(x.g, x.roots); e != api.OK || !sameClauses(c, x.want) {
			t.Errorf("%v, %v: %v %d, want %v", x.g, x.roots, c, e, x.want)
		}
	}
}

// H2, P1: errors of graphs come ahead of those of roots; nothing with them.
func TestOfRefuses(t *testing.T) {
	g := api.Graph{Ins: 2, Ands: [][2]int{{2, 4}}}
	for i, x := range []struct {
		g     api.Graph
		roots []int
		want  api.Errno
	}{
		{api.Graph{Ins: -1}, nil, api.ErrRange},
		{api.Graph{Ins: 1001}, []int{-1}, api.ErrRange},
		{api.Graph{Ands: make([][2]int, api.MaxGates+1)}, []int{-1}, api.ErrMany},
		{api.Graph{Ins: 2, Ands: [][2]int{{4, 2}}}, []int{99}, api.ErrState},
		{api.Graph{Ins: 2, Ands: [][2]int{{2, 4}, {2, 4}}}, []int{99}, api.ErrTwice},
		{g, []int{8}, api.ErrNone},
		{g, []int{6, 7, -1}, api.ErrNone},
		{g, []int{math.MinInt}, api.ErrNone},
		{g, []int{1, math.MaxInt, 0}, api.ErrNone},
		{api.Graph{}, []int{2}, api.ErrNone},
	} {
		if c, e := cnf.Of(x.g, x.roots); e != x.want || c.Vars != 0 || len(c.List) > 0 {
			t.Errorf("%d: %v %d, want %d", i, c, e, x.want)
		}
	}
}

// H1, H2, P1: as many variables, and clauses, as there may be, and one more; a root 1 takes no clause.
func TestOfAtTheBounds(t *testing.T) {
	const spare = api.MaxClauses - 3*(api.MaxVars-1000)
	roots := func(literal, count int) []int { return slices.Repeat([]int{literal}, count) }
	for i, x := range []struct {
		ands    int
		roots   []int
		want    api.Errno
		clauses int
	}{
		{api.MaxVars - 1000, nil, api.OK, 3 * (api.MaxVars - 1000)},
		{api.MaxVars - 1000, roots(2, spare), api.OK, api.MaxClauses},
		{api.MaxVars - 1000, append(roots(0, spare), roots(1, 9)...), api.OK, api.MaxClauses},
		{api.MaxVars - 1000, roots(3, spare+1), api.ErrMany, 0},
		{api.MaxVars - 1000, roots(0, spare+1), api.ErrMany, 0},
		{api.MaxVars - 1000, append(roots(3, spare+1), -1), api.ErrNone, 0},
		{api.MaxVars - 999, nil, api.ErrRange, 0},
		{api.MaxVars - 999, roots(2, spare-3), api.ErrRange, 0},
		{api.MaxVars - 999, roots(2, spare-2), api.ErrMany, 0}, // both: H2 names ErrMany first
		{api.MaxVars - 999, []int{-1}, api.ErrNone, 0},
		{api.MaxGates, nil, api.ErrMany, 0},
		{0, roots(1, api.MaxClauses+1), api.OK, 0},
	} {
		c, e := cnf.Of(samples.Broad(x.ands), x.roots)
		if e != x.want || len(c.List) != x.clauses || e != api.OK && c.Vars != 0 || e == api.OK && cnf.Check(c) != api.OK {
			t.Errorf("%d: %d clauses, %d, want %d, %d", i, len(c.List), e, x.clauses, x.want)
		}
	}
}

// H3: lines by hand.
func TestHoldsByHand(t *testing.T) {
	of := func(vars int, list ...[]int) api.Clauses { return api.Clauses{Vars: vars, List: list} }
	no, yes := false, true
	for i, x := range []struct {
		c      api.Clauses
		values []bool
		want   bool
		e      api.Errno
	}{
		{of(0), nil, true, api.OK},
		{of(0), []bool{}, true, api.OK},
		{of(0, nil), nil, false, api.OK},
		{of(1), []bool{no}, true, api.OK},
		{of(1, []int{1}), []bool{yes}, true, api.OK},
		{of(1, []int{1}), []bool{no}, false, api.OK},
		{of(1, []int{-1}), []bool{no}, true, api.OK},
		{of(1, []int{-1}), []bool{yes}, false, api.OK},
		{of(1, []int{1, -1}), []bool{no}, true, api.OK},
		{of(3, []int{1, 2}, []int{-1, 3}), []bool{no, yes, no}, true, api.OK},
		{of(3, []int{1, 2}, []int{-1, 3}), []bool{yes, yes, no}, false, api.OK},
		{of(3, []int{1, 2}, []int{-1, 3}), []bool{no, no, yes}, false, api.OK},
		{of(3, []int{1, 2}, nil, []int{3}), []bool{yes, yes, yes}, false, api.OK},
		{of(0), []bool{no}, false, api.ErrForm},
		{of(2, []int{1}), nil, false, api.ErrForm},
		{of(2, []int{1}), []bool{yes}, false, api.ErrForm},
		{of(2, []int{1}), []bool{yes, yes, yes}, false, api.ErrForm},
		{of(1, []int{0}), []bool{yes, yes}, false, api.ErrNone},
	} {
		if got, e := cnf.Holds(x.c, x.values); got != x.want || e != x.e {
			t.Errorf("%d: %v %d, want %v %d", i, got, e, x.want, x.e)
		}
	}
}

// H3: lines by hand, and the longest clause.
func TestPrintByHand(t *testing.T) {
	for _, x := range []struct {
		c    api.Clauses
		want string
	}{
		{api.Clauses{}, "p cnf 0 0\n"},
		{api.Clauses{Vars: 7}, "p cnf 7 0\n"},
		{api.Clauses{List: [][]int{nil, {}}}, "p cnf 0 2\n0\n0\n"},
		{api.Clauses{Vars: 2, List: [][]int{{1, -2}, nil, {2}}}, "p cnf 2 3\n1 -2 0\n0\n2 0\n"},
		{api.Clauses{Vars: 200000, List: [][]int{{-200000, 10, 10, 200000}}}, "p cnf 200000 1\n-200000 10 10 200000 0\n"},
		{api.Clauses{Vars: 3, List: [][]int{slices.Repeat([]int{-3}, 200)}}, "p cnf 3 1\n" + strings.Repeat("-3 ", 200) + "0\n"},
	} {
		if s, e := cnf.Print(x.c); e != api.OK || s != x.want {
			t.Errorf("%v: %q %d, want %q", x.c, s, e, x.want)
		}
	}
}

// H3: drawn clauses, by all values; Holds and Print are H3, said once more.
func TestDrawnClauses(t *testing.T) {
	d := new(samples.Draw)
	told := map[bool]int{}
	for range 1000 {
		c := d.Clauses(1+d.Below(5), d.Below(8), 0, 4)
		for _, values := range samples.Values(c.Vars) {
			want := samples.Hold(c.List, values)
			told[want]++
			if got, e := cnf.Holds(c, values); got != want || e != api.OK {
				t.Fatalf("%v, %v: %v %d", c, values, got, e)
			}
		}
		want := fmt.Sprintf("p cnf %d %d\n", c.Vars, len(c.List))
		for _, clause := range c.List {
			want += strings.TrimPrefix(strings.Trim(fmt.Sprint(clause), "[]")+" 0\n", " ")
		}
		if s, e := cnf.Print(c); s != want || e != api.OK {
			t.Fatalf("%v: %q %d", c, s, e)
		}
	}
	if told[true] < 1000 || told[false] < 1000 {
		t.Errorf("told: %v", told)
	}
}

// plain: the literals of a graph's nodes but node 0, none of them turned round.
func plain(g api.Graph) []int {
	var all []int
	for node := 1; node < 1+g.Ins+len(g.Ands); node++ {
		all = append(all, 2*node)
	}
	return all
}

// H2, H4: drawn graphs, by all values of all variables: what the graph tells makes the clauses hold, if the roots are so; and nothing else does.
func TestClausesTellWhatTheGraphDoes(t *testing.T) {
	d := new(samples.Draw)
	told := map[bool]int{}
	for range 300 {
		g := d.Graph(1+d.Below(4), d.Below(12))
		all := plain(g)
		var roots []int
		for range d.Below(3) {
			roots = append(roots, d.Below(2+2*len(all)))
		}
		c, e := cnf.Of(g, roots)
		if e != api.OK || cnf.Check(c) != api.OK {
			t.Fatalf("%v, %v: %d", g, roots, e)
		}
		for _, values := range samples.Values(c.Vars) {
			tells, _ := gates.Eval(g, values[:g.Ins], all)
			so, _ := gates.Eval(g, values[:g.Ins], roots)
			want := slices.Equal(tells, values) && !slices.Contains(so, false)
			told[want]++
			if got, e := cnf.Holds(c, values); got != want || e != api.OK {
				t.Fatalf("%v, %v, %v: %v %d, want %v", g, roots, values, got, e, want)
			}
		}
	}
	if told[true] < 300 || told[false] < 300 {
		t.Errorf("told: %v", told)
	}
}

// H4: what the graph tells makes all clauses hold but those of roots that are not so.
func TestClausesThatFail(t *testing.T) {
	d := new(samples.Draw)
	for range 100 {
		g := d.Graph(1+d.Below(4), d.Below(30))
		all := plain(g)
		var roots []int
		for range 5 {
			roots = append(roots, 2+d.Below(2*len(all)))
		}
		c, _ := cnf.Of(g, roots)
		for _, ins := range samples.Values(g.Ins) {
			values, _ := gates.Eval(g, ins, all)
			so, _ := gates.Eval(g, ins, roots)
			for i, clause := range c.List {
				want := true
				if root := i - 3*len(g.Ands); root >= 0 {
					want = so[root]
				}
				one := api.Clauses{Vars: c.Vars, List: [][]int{clause}}
				if got, e := cnf.Holds(one, values); got != want || e != api.OK {
					t.Fatalf("%v, %v, clause %v: %v %d", g, ins, clause, got, e)
				}
			}
		}
	}
}

// P2, P3: what is handed in stays, spare room too; clauses are new memory, each its own; the same each time.
func TestClausesAndMemory(t *testing.T) {
	ands, roots := [][2]int{{2, 4}, {3, 5}, {77, 77}}, []int{6, 6, 0, 0, 77, 78}
	g := api.Graph{Ins: 2, Ands: ands[:2]}
	want, _ := cnf.Of(g, roots[:4])
	for range 2 {
		c, e := cnf.Of(g, roots[:4])
		if e != api.OK || !sameClauses(c, want) {
			t.Fatalf("%v %d, want %v", c, e, want)
		}
		for i := range c.List {
			clear(c.List[i][:cap(c.List[i])])
			for k := i + 1; k < len(c.List); k++ {
				if !slices.Equal(c.List[k], want.List[k]) {
					t.Errorf("clauses %d and %d share memory", i, k)
				}
			}
		}
		if !slices.Equal(ands, [][2]int{{2, 4}, {3, 5}, {77, 77}}) || !slices.Equal(roots, []int{6, 6, 0, 0, 77, 78}) {
			t.Errorf("changed: %v %v", ands, roots)
		}
	}
	list, values := [][]int{{1, -2}, {2}, {77}}, []bool{true, true, false}
	c := api.Clauses{Vars: 2, List: list[:2]}
	for range 2 {
		holds, _ := cnf.Holds(c, values[:2])
		s, _ := cnf.Print(c)
		if !holds || s != "p cnf 2 2\n1 -2 0\n2 0\n" || cnf.Check(c) != api.OK {
			t.Errorf("%v %q", holds, s)
		}
		if !slices.EqualFunc(list, [][]int{{1, -2}, {2}, {77}}, slices.Equal[[]int]) || !slices.Equal(values, []bool{true, true, false}) {
			t.Errorf("changed: %v %v", list, values)
		}
	}
}
