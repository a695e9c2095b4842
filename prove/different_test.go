package prove_test

import (
	"math"
	"reflect"
	"slices"
	"testing"

	"latchwork/api"
	"latchwork/blast"
	"latchwork/gates"
	"latchwork/prove"
	"latchwork/samples"
	"latchwork/search"
	"latchwork/unroll"
)

func same(a, b api.Clauses) bool {
	return a.Vars == b.Vars && slices.EqualFunc(a.List, b.List, slices.Equal[[]int])
}

// refused: is an error told, and nothing else?
func refused(c api.Clauses, e, want api.Errno) bool {
	return e == want && c.Vars == 0 && len(c.List) == 0
}

// good: one input, two states' bits and two Ands: nodes 4 and 5. That the first state begins as something that hangs on others does not matter.
func good() api.Circuit {
	return api.Circuit{
		Graph:  api.Graph{Ins: 3, Ands: [][2]int{{2, 5}, {4, 9}}},
		Inputs: 1,
		States: 2,
		Inits:  []int{8, -1},
		Nexts:  []int{9, 6},
		Bads:   []int{10},
		Holds:  []int{3},
	}
}

// L2: by hand.
func TestDifferentByHand(t *testing.T) {
	turn, e := blast.Blast(samples.Turn())
	if e != api.OK {
		t.Fatal(e)
	}
	ands := [][]int{{-4, 1}, {-4, -2}, {4, -1, 2}, {-5, 2}, {-5, -4}, {5, -2, 4}}
	more := [][]int{{-9, 6}, {-9, -7}, {9, -6, 7}, {-10, 7}, {-10, -9}, {10, -7, 9}}
	bonds := [][]int{{-7, -4}, {7, 4}, {-8, 3}, {8, -3}, {-1}, {-6}}
	differ := [][]int{{-11, 2, 7}, {-11, -2, -7}, {-12, 3, 8}, {-12, -3, -8}, {11, 12}}
	marks, sure := good(), good()
	marks.Bads = []int{0, 7, 11, 0, 7}
	sure.Bads = []int{10, 1, 0}
	for i, x := range []struct {
		c     api.Circuit
		steps int
		want  api.Clauses
	}{
		{turn, 0, api.Clauses{Vars: 1, List: [][]int{{1}}}},
		{turn, 1, api.Clauses{Vars: 3, List: [][]int{{-2, -1}, {2, 1}, {2}, {-1}, {-3, 1, 2}, {-3, -1, -2}, {3}}}},
		{turn, 2, api.Clauses{Vars: 6, List: [][]int{
			{-2, -1}, {2, 1}, {-3, -2}, {3, 2}, {3}, {-1}, {-2},
			{-4, 1, 2}, {-4, -1, -2}, {4}, {-5, 1, 3}, {-5, -1, -3}, {5}, {-6, 2, 3}, {-6, -2, -3}, {6},
		}}},
		{good(), 0, api.Clauses{Vars: 5, List: slices.Concat(ands, [][]int{{-1}, {5}})}},
		{good(), 1, api.Clauses{Vars: 12, List: slices.Concat(ands, more, bonds, [][]int{{10}, {-5}}, differ)}},
		{marks, 1, api.Clauses{Vars: 12, List: slices.Concat(ands, more, bonds, [][]int{{-8, -10, -8}, {3}, {5}, {3}}, differ)}},
		{sure, 1, api.Clauses{Vars: 12, List: slices.Concat(ands, more, bonds, [][]int{{-5}, nil}, differ)}},
		{api.Circuit{}, 0, api.Clauses{List: [][]int{nil}}},
		{api.Circuit{}, 2, api.Clauses{List: [][]int{nil, nil, nil, nil}}},
		{api.Circuit{Bads: []int{1, 1}}, 2, api.Clauses{List: [][]int{nil, nil, nil, nil, nil, nil, nil}}},
		{api.Circuit{Graph: api.Graph{Ins: 2}, Inputs: 2, Bads: []int{5}}, 1, api.Clauses{Vars: 4, List: [][]int{{-4}, {2}, nil}}},
	} {
		if got, e := prove.Different(x.c, x.steps); e != api.OK || !same(got, x.want) {
			t.Errorf("%d: %v %d, want %v", i, got, e, x.want)
		}
	}
}

// told: the clauses, as L2 tells them, once more.
func told(t *testing.T, c api.Circuit, steps int) api.Clauses {
	t.Helper()
	want, e := unroll.Clauses(c, steps, false)
	if e != api.OK {
		t.Fatalf("%v: %d", c, e)
	}
	f := c.Graph.Ins + len(c.Graph.Ands)
	add := func(numbers ...int) { want.List = append(want.List, numbers) }
	for step := range steps {
		for _, bad := range c.Bads {
			if bad == 1 {
				add()
			} else if bad > 1 {
				add((bad/2 + step*f) * (bad%2*2 - 1))
			}
		}
	}
	for a := range steps + 1 {
		for b := a + 1; b <= steps; b++ {
			var some []int
			for bit := range c.States {
				x, y := a*f+c.Inputs+1+bit, b*f+c.Inputs+1+bit
				want.Vars++
				add(-want.Vars, x, y)
				add(-want.Vars, -x, -y)
				some = append(some, want.Vars)
			}
			add(some...)
		}
	}
	return want
}

// L2: circuits of all sorts.
func TestDifferentOfDrawnCircuits(t *testing.T) {
	d := new(samples.Draw)
	for range 2000 {
		c, steps := d.Circuit(d.Below(4), d.Below(4), d.Below(8)), d.Below(5)
		if got, e := prove.Different(c, steps); e != api.OK || !same(got, told(t, c, steps)) {
			t.Fatalf("%v, %d steps: %v %d", c, steps, got, e)
		}
	}
	c := d.Circuit(3, 9, 60)
	if got, e := prove.Different(c, api.MaxSteps); e != api.OK || !same(got, told(t, c, api.MaxSteps)) {
		t.Errorf("as many steps as may be: %d", e)
	}
}

// L1, L2: the clauses can hold just if there are such states.
func TestDifferentSaysSo(t *testing.T) {
	d := new(samples.Draw)
	seen := map[bool]int{}
	for range 1500 {
		c, steps := d.Circuit(d.Below(3), d.Below(4), d.Below(8)), d.Below(4)
		list, e := prove.Different(c, steps)
		if e != api.OK {
			t.Fatalf("%v: %d", c, e)
		}
		a, _ := search.Solve(list, api.MaxFuel)
		want := machineOf(t, c).Approached(steps)
		if want != (a.Verdict == api.VerdictYes) || want == (a.Verdict == api.VerdictNo) {
			t.Fatalf("%v, %d steps: verdict %d, want %v", c, steps, a.Verdict, want)
		}
		if steps > 0 {
			seen[want]++
		}
	}
	if min(seen[true], seen[false]) < 50 {
		t.Errorf("seen: %v", seen)
	}
}

// machineOf a circuit, by its gates.
func machineOf(t *testing.T, c api.Circuit) samples.Machine {
	t.Helper()
	var x samples.Machine
	for _, states := range samples.Values(c.States) {
		var moves []samples.Move
		for _, inputs := range samples.Values(c.Inputs) {
			eval := func(literals []int) []bool {
				got, e := gates.Eval(c.Graph, slices.Concat(inputs, states), literals)
				if e != api.OK {
					t.Fatalf("%v: %d", c, e)
				}
				return got
			}
			move := samples.Move{Holds: !slices.Contains(eval(c.Holds), false), Bad: slices.Contains(eval(c.Bads), true)}
			for i, so := range eval(c.Nexts) {
				if so {
					move.Next |= 1 << i
				}
			}
			moves = append(moves, move)
		}
		x.Moves = append(x.Moves, moves)
	}
	return x
}

// L2, P1: errors, and which comes first; nothing with them.
func TestDifferentRefuses(t *testing.T) {
	wrong, errors := samples.WrongCircuits()
	for i, c := range wrong {
		for _, steps := range []int{-1, 0, 1, 41} {
			if got, e := prove.Different(c, steps); !refused(got, e, errors[i]) {
				t.Errorf("circuit %d, %d steps: %v %d, want %d", i, steps, got, e, errors[i])
			}
		}
	}
	for _, steps := range []int{math.MinInt, -1, api.MaxSteps + 1, math.MaxInt} {
		if got, e := prove.Different(good(), steps); !refused(got, e, api.ErrRange) {
			t.Errorf("%d steps: %v %d", steps, got, e)
		}
	}
}

// L2: the limits of clauses, at the edge, and beyond it.
func TestDifferentLimits(t *testing.T) {
	states := func(bits, inputs int) api.Circuit {
		return api.Circuit{Graph: api.Graph{Ins: bits + inputs}, Inputs: inputs, States: bits,
			Inits: slices.Repeat([]int{-1}, bits), Nexts: slices.Repeat([]int{0}, bits)}
	}
	broad := func(nodes int) api.Circuit {
		c := states(10, 990)
		c.Graph = samples.Broad(nodes - 1000)
		return c
	}
	marks := func(bads, holds []int) api.Circuit {
		return api.Circuit{Graph: api.Graph{Ins: 1}, Inputs: 1, Bads: bads, Holds: holds}
	}
	times := func(literal, count int) []int { return slices.Repeat([]int{literal}, count) }
	most := api.MaxClauses
	both := broad(api.MaxVars)
	both.Holds = times(0, most)
	for i, x := range []struct {
		c     api.Circuit
		steps int
		want  api.Errno
	}{
		{broad(api.MaxVars), 0, api.OK},
		{broad(api.MaxVars + 1), 0, api.ErrRange},
		{broad(api.MaxVars/2 - 5), 1, api.OK},
		{broad(api.MaxVars/2 - 4), 1, api.ErrRange},
		{broad((api.MaxVars - 8200) / 41), 40, api.OK},
		{broad((api.MaxVars-8200)/41 + 1), 40, api.ErrRange},
		{states(api.MaxClause, 0), 5, api.OK},
		{states(api.MaxClause+1, 0), 0, api.OK},
		{states(api.MaxClause+1, 0), 1, api.ErrMany},
		{states(api.MaxClause, 0), 40, api.OK},
		{states(1000, 0), 40, api.ErrRange},
		{states(1000, 0), 5, api.ErrMany},
		{marks([]int{1}, times(0, most/2-1)), 1, api.OK},
		{marks([]int{1}, times(0, most/2)), 1, api.ErrMany},
		{marks(append(times(0, most), 1), times(0, most/2-1)), 1, api.OK},
		{marks(times(2, api.MaxClause), nil), 40, api.OK},
		{marks(times(2, api.MaxClause+1), nil), 40, api.ErrMany},
		{marks(times(1, (most-820)/40), nil), 40, api.OK},
		{marks(times(1, (most-820)/40+1), nil), 40, api.ErrMany},
		{both, 1, api.ErrRange},
		{both, 0, api.ErrMany},
	} {
		got, e := prove.Different(x.c, x.steps)
		if e != x.want {
			t.Errorf("%d: %d, want %d", i, e, x.want)
		}
		if e == api.OK && !same(got, told(t, x.c, x.steps)) || e != api.OK && !refused(got, e, x.want) {
			t.Errorf("%d: the clauses are others", i)
		}
	}
}

// L2, P2, P3: what is handed in is only read; an answer is new memory, and the same each time.
func TestDifferentReads(t *testing.T) {
	c, stayed := samples.RoomyCircuit(good())
	first, _ := prove.Different(c, 3)
	second, e := prove.Different(c, 3)
	if e != api.OK || !reflect.DeepEqual(first, second) {
		t.Errorf("%v, and then %v %d", first, second, e)
	}
	for i, clause := range first.List {
		for k := range clause {
			clause[k] = 99
		}
		_ = append(clause, 99, 99)
		for k := i + 1; k < len(first.List); k++ {
			if !slices.Equal(first.List[k], second.List[k]) {
				t.Fatalf("clauses %d and %d share memory", i, k)
			}
		}
	}
	if third, _ := prove.Different(c, 3); !reflect.DeepEqual(second, third) || !stayed() {
		t.Errorf("%v, and then %v; the circuit stayed: %v", second, third, stayed())
	}
}
