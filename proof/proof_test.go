package proof_test

import (
	"math"
	"slices"
	"testing"

	"latchwork/api"
	"latchwork/proof"
	"latchwork/samples"
)

func of(vars int, list ...[]int) api.Clauses { return api.Clauses{Vars: vars, List: list} }

// four clauses of two variables that nothing makes hold.
func four() api.Clauses { return of(2, []int{1, 2}, []int{1, -2}, []int{-1, 2}, []int{-1, -2}) }

// I1: lines by hand.
func TestFollowsByHand(t *testing.T) {
	chain := of(5, []int{-1, 2}, []int{-2, 3}, []int{-3, 4}, []int{-4, 5})
	for i, x := range []struct {
		c      api.Clauses
		clause []int
		want   bool
	}{
		{of(0), nil, false},
		{of(0, nil), nil, true},
		{of(2, nil), []int{1}, true},
		{of(2), []int{1}, false},
		{of(2), []int{2, -2}, true},
		{of(2), []int{1, 2, 1, -2}, true},
		{of(2, []int{1}), []int{1}, true},
		{of(2, []int{1}), []int{-1}, false},
		{of(2, []int{1}), []int{1, 2}, true},
		{of(2, []int{1}), []int{2}, false},
		{of(2, []int{1}), nil, false},
		{of(2, []int{1}, []int{-1}), nil, true},
		{of(2, []int{1}, []int{-1}), []int{2}, true},
		{of(2, []int{1, 1}), []int{1}, true},
		{of(2, []int{1, 1}, []int{-1, -1}), nil, true},
		{of(2, []int{1, 1, 2, 2}, []int{-2}), []int{1}, true},
		{of(2, []int{1, 2}), []int{1, 1}, false},
		{of(2, []int{1, 2}), []int{2, 1, 2, 1}, true},
		{of(2, []int{1, -1, 2}), []int{2}, false},
		{of(2, []int{1, -1}), nil, false},
		{four(), nil, false}, // it is so, but not by putting in
		{four(), []int{1}, true},
		{four(), []int{-2}, true},
		{four(), []int{1, -1}, true},
		{chain, []int{-1, 5}, true},
		{chain, []int{5, -1}, true},
		{chain, []int{-2, 4}, true},
		{chain, []int{-5, 1}, false},
		{chain, []int{-1, -5}, false},
		{chain, []int{-3, 1, 5}, true},
		{of(3, []int{1, 2, 3}, []int{-1, 3}, []int{-2, 3}), []int{3}, true},
		{of(3, []int{1, 2, 3}, []int{-1, 3}, []int{-2, 3}), []int{1, 2}, false},
	} {
		if got, e := proof.Follows(x.c, x.clause); got != x.want || e != api.OK {
			t.Errorf("%d: %v, %v: %v %d, want %v", i, x.c, x.clause, got, e, x.want)
		}
	}
}

// puts in what must be, clause by clause as I1 says it, and tells whether the clause follows.
func puts(list [][]int, clause []int) bool {
	so := map[int]bool{}
	isNot := func(number int) bool { return so[-number] }
	for _, number := range clause {
		if so[number] {
			return true
		}
		so[-number] = true
	}
	for again := true; again; {
		again = false
		for _, other := range list {
			left := slices.DeleteFunc(slices.Clone(other), isNot)
			slices.Sort(left)
			left = slices.Compact(left)
			if len(left) == 0 {
				return true
			}
			if len(left) == 1 && !so[left[0]] {
				so[left[0]], again = true, true
			}
		}
	}
	return false
}

// I1, I3: drawn clauses: what follows is what I1 says, and holds by all values that make all hold.
func TestFollowsAsDrawn(t *testing.T) {
	d := new(samples.Draw)
	told := map[bool]int{}
	for range 4000 {
		c := d.Clauses(1+d.Below(6), d.Below(16), d.Below(3), 4)
		clause := d.Clause(c.Vars, d.Below(4))
		want := puts(c.List, clause)
		told[want]++
		if got, e := proof.Follows(c, clause); got != want || e != api.OK {
			t.Fatalf("%v, %v: %v %d, want %v", c, clause, got, e, want)
		}
		for _, values := range samples.Values(c.Vars) {
			if want && samples.Hold(c.List, values) && !samples.Hold([][]int{clause}, values) {
				t.Fatalf("%v, %v: it follows, but by %v it does not hold", c, clause, values)
			}
		}
	}
	if told[true] < 1000 || told[false] < 1000 {
		t.Errorf("told: %v", told)
	}
}

// I1: greater ones, by which many a clause is watched by other numbers than at first.
func TestFollowsOfMany(t *testing.T) {
	d := new(samples.Draw)
	told := map[bool]int{}
	for range 300 {
		c := d.Clauses(40, 100+d.Below(60), 2, 5)
		for range 10 {
			clause := d.Clause(c.Vars, d.Below(8))
			want := puts(c.List, clause)
			told[want]++
			if got, e := proof.Follows(c, clause); got != want || e != api.OK {
				t.Fatalf("%v, %v: %v %d, want %v", c, clause, got, e, want)
			}
		}
	}
	if told[true] < 500 || told[false] < 500 {
		t.Errorf("told: %v", told)
	}
}

// I1, P1: the errors, those of the clauses ahead of the one's.
func TestFollowsRefuses(t *testing.T) {
	long, longest := make([]int, api.MaxClause+1), slices.Repeat([]int{-2}, api.MaxClause)
	for i, x := range []struct {
		c      api.Clauses
		clause []int
		want   api.Errno
	}{
		{of(-1), nil, api.ErrRange},
		{of(api.MaxVars+1, []int{0}), long, api.ErrRange},
		{api.Clauses{Vars: 1, List: make([][]int, api.MaxClauses+1)}, []int{0}, api.ErrMany},
		{of(2, long), []int{0}, api.ErrMany},
		{of(2, []int{1}, []int{3}), long, api.ErrNone},
		{of(2, []int{0}), []int{1, -1}, api.ErrNone},
		{of(2), long, api.ErrMany},
		{of(2, nil), long, api.ErrMany},
		{of(2), []int{0}, api.ErrNone},
		{of(2, nil), []int{1, -1, 3}, api.ErrNone},
		{of(2), []int{-3}, api.ErrNone},
		{of(0), []int{1}, api.ErrNone},
		{of(2), []int{math.MinInt}, api.ErrNone},
		{of(2), []int{math.MaxInt}, api.ErrNone},
		{of(2), longest, api.OK},
		{api.Clauses{Vars: api.MaxVars, List: slices.Repeat([][]int{{api.MaxVars}}, api.MaxClauses)}, []int{1 - api.MaxVars}, api.OK},
	} {
		if got, e := proof.Follows(x.c, x.clause); got || e != x.want {
			t.Errorf("%d: %v %d, want %d", i, got, e, x.want)
		}
	}
}

// I2: lines by hand.
func TestCheckByHand(t *testing.T) {
	for i, x := range []struct {
		c    api.Clauses
		p    [][]int
		want bool
	}{
		{of(0), nil, false},
		{of(0), [][]int{nil}, false},
		{of(0, nil), nil, false}, // there is no empty one among the proof's
		{of(0, nil), [][]int{nil}, true},
		{of(0, nil), [][]int{{}, nil, {}}, true},
		{of(1, nil), [][]int{{1}, {-1}}, false},
		{of(1, []int{1}, []int{-1}), [][]int{nil}, true},
		{of(1, []int{1}, []int{-1}), [][]int{{1}, {-1}, {1, -1}, nil}, true},
		{of(1, []int{1}), [][]int{{1}, nil}, false},
		{of(1, []int{1}), [][]int{{-1}, nil}, false},
		{of(1, []int{1}), [][]int{nil, nil}, false},
		{four(), [][]int{nil}, false},
		{four(), [][]int{{1}}, false},
		{four(), [][]int{{1}, nil}, true},
		{four(), [][]int{{1, 1}, {2, -2}, nil}, true},
		{four(), [][]int{nil, {1}}, false}, // the order counts
		{four(), [][]int{{1, -1}, nil}, false},
		{four(), [][]int{{2}, nil, {1, 2}, {-1}}, true}, // behind an empty one all follow
		{of(4, []int{1, 2}, []int{1, -2}, []int{-1, 2}, []int{-1, -2}), [][]int{{3}, {1}, nil}, false},
		{of(4, []int{1, 2}, []int{1, -2}, []int{-1, 2}, []int{-1, -2}), [][]int{{3, 1}, {-3, 4, 1}, {1}, {3}, nil}, true},
		{of(3, []int{-1}, []int{1, 2, 3}, []int{1, 2, -3}, []int{-2, 3}, []int{-2, -3}), [][]int{{1, 2}, {2}, nil}, true}, // 1 is not so, before and behind it
		{of(3, []int{-1}, []int{1, 2, 3}, []int{1, 2, -3}), [][]int{{1, 2}, {2}, nil}, false},
		{samples.Pigeons(3), [][]int{{-1}, nil}, true},
		{samples.Pigeons(3), [][]int{nil}, false},
		{samples.Pigeons(4), [][]int{{-1}, nil}, false},
		{samples.Corners(3), [][]int{{1, 2}, {1}, {2}, nil}, true},
		{samples.Corners(3), [][]int{{1, 2}, {2}, {-2}, nil}, false},
		{samples.Corners(3), [][]int{{1}, {2}, nil}, false},
	} {
		if got, e := proof.Check(x.c, x.p); got != x.want || e != api.OK {
			t.Errorf("%d: %v, %v: %v %d, want %v", i, x.c, x.p, got, e, x.want)
		}
	}
}

// whole: a proof of whatever nothing makes hold: all clauses of all variables, then of all but one, and so on, down to the empty one.
func whole(vars int) [][]int {
	var p [][]int
	for ; vars >= 0; vars-- {
		p = append(p, samples.Corners(vars).List...)
	}
	return p
}

// I2, I3: the whole proof passes just if nothing makes all clauses hold.
func TestWholeProofs(t *testing.T) {
	d := new(samples.Draw)
	told := map[bool]int{}
	for range 500 {
		c := d.Clauses(1+d.Below(5), d.Below(30), d.Below(3), 4)
		want := !samples.CanHold(c)
		told[want]++
		if got, e := proof.Check(c, whole(c.Vars)); got != want || e != api.OK {
			t.Fatalf("%v: %v %d, want %v", c, got, e, want)
		}
	}
	if told[true] < 100 || told[false] < 100 {
		t.Errorf("told: %v", told)
	}
}

// drawnProof: pieces of a whole proof, and other clauses between.
func drawnProof(d *samples.Draw, vars int) [][]int {
	var p [][]int
	drop, add := 2+d.Below(9), 2+d.Below(40)
	for _, clause := range whole(vars) {
		if d.Below(drop) > 0 {
			p = append(p, clause)
		}
		if d.Below(add) == 0 {
			p = append(p, d.Clause(vars, d.Below(3)))
		}
	}
	return p
}

// I2, I3: drawn proofs: what passes is what I2 says, and then nothing makes all hold.
func TestCheckAsDrawn(t *testing.T) {
	d := new(samples.Draw)
	told := map[bool]int{}
	for range 3000 {
		c := d.Clauses(1+d.Below(4), 6+d.Below(20), d.Below(4), 4)
		p := drawnProof(d, c.Vars)
		want, empty := true, false
		for i, clause := range p {
			want = want && puts(slices.Concat(c.List, p[:i]), clause)
			empty = empty || len(clause) == 0
		}
		want = want && empty
		told[want]++
		if got, e := proof.Check(c, p); got != want || e != api.OK {
			t.Fatalf("%v, %v: %v %d, want %v", c, p, got, e, want)
		}
		if want && samples.CanHold(c) {
			t.Fatalf("%v, %v: it passes, but all can hold", c, p)
		}
	}
	if told[true] < 300 || told[false] < 300 {
		t.Errorf("told: %v", told)
	}
}

// I2, P1: the errors: as if the proof's clauses stood behind the others.
func TestCheckRefuses(t *testing.T) {
	long := make([]int, api.MaxClause+1)
	many := func(count int, last ...int) api.Clauses {
		return api.Clauses{Vars: 1, List: append(slices.Repeat([][]int{{1}}, count-1), last)}
	}
	for i, x := range []struct {
		c    api.Clauses
		p    [][]int
		want api.Errno
	}{
		{of(-1, []int{1}), [][]int{{0}}, api.ErrRange},
		{of(api.MaxVars + 1), [][]int{long}, api.ErrRange},
		{api.Clauses{Vars: -1, List: make([][]int, api.MaxClauses)}, [][]int{nil}, api.ErrRange},
		{of(2, []int{1, 3}), [][]int{long}, api.ErrNone},
		{of(2, long), [][]int{{0}}, api.ErrMany},
		{of(2), [][]int{{0}, long}, api.ErrNone},
		{of(2), [][]int{long, {0}}, api.ErrMany},
		{of(2, nil), [][]int{nil, {3}}, api.ErrNone},
		{of(2), [][]int{{1}, {math.MinInt}, nil}, api.ErrNone},
		{of(0), [][]int{{1}}, api.ErrNone},
		{of(2), [][]int{slices.Repeat([]int{1}, api.MaxClause)}, api.OK},
		{many(api.MaxClauses, 1), nil, api.OK},
		{many(api.MaxClauses, 1), [][]int{nil}, api.ErrMany},
		{many(api.MaxClauses, 1), [][]int{{0}}, api.ErrMany},
		{many(api.MaxClauses, 0), [][]int{nil}, api.ErrMany}, // too many in all is told ahead of what each one is
		{many(api.MaxClauses, 0), nil, api.ErrNone},
		{many(api.MaxClauses-1, 1), [][]int{nil, nil}, api.ErrMany},
		{many(api.MaxClauses-1, 1), [][]int{{1}}, api.OK},
		{of(1), make([][]int, api.MaxClauses+1), api.ErrMany},
	} {
		if got, e := proof.Check(x.c, x.p); got || e != x.want {
			t.Errorf("%d: %v %d, want %d", i, got, e, x.want)
		}
	}
	if got, e := proof.Check(many(api.MaxClauses-1, -1), [][]int{nil}); !got || e != api.OK {
		t.Errorf("as many as there may be: %v %d", got, e)
	}
}

// I1, I2: as many variables as there may be, each by the one ahead of it.
func TestLongChain(t *testing.T) {
	c := api.Clauses{Vars: api.MaxVars}
	for n := 1; n < c.Vars; n++ {
		c.List = append(c.List, []int{n + 1, -n})
	}
	if got, e := proof.Follows(c, []int{c.Vars, -1}); !got || e != api.OK {
		t.Errorf("the last by the first: %v %d", got, e)
	}
	if got, e := proof.Follows(c, []int{1, -c.Vars}); got || e != api.OK {
		t.Errorf("the first by the last: %v %d", got, e)
	}
	c.List = append(c.List, []int{1, c.Vars}, []int{-1, -c.Vars})
	p := [][]int{{c.Vars}, {-1}}
	for n := 2; n < c.Vars; n += 100 {
		p = append(p, []int{n, c.Vars})
	}
	if got, e := proof.Check(c, p); got || e != api.OK {
		t.Errorf("without an empty one: %v %d", got, e)
	}
	c.List = append(c.List, []int{1, -c.Vars})
	if got, e := proof.Check(c, append(p, nil)); !got || e != api.OK {
		t.Errorf("with an empty one: %v %d", got, e)
	}
}

// P2, P3: what is handed in stays, spare room too; the same each time.
func TestProofsAndMemory(t *testing.T) {
	list, listStayed := samples.RoomyList([][]int{{2, 1}, {1, -2, 1}, {2, -1}, {-1, -2}})
	p, proofStayed := samples.RoomyList([][]int{{2, 1, 2}, {1}, {}})
	c := api.Clauses{Vars: 2, List: list}
	for range 3 {
		if got, e := proof.Check(c, p); !got || e != api.OK {
			t.Errorf("%v %d", got, e)
		}
		if got, e := proof.Follows(c, p[0]); !got || e != api.OK {
			t.Errorf("%v %d", got, e)
		}
	}
	if !listStayed() || !proofStayed() {
		t.Errorf("changed: %v %v", list, p)
	}
}
