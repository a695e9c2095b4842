package unroll_test

import (
	"math"
	"reflect"
	"slices"
	"testing"

	"latchwork/api"
	"latchwork/blast"
	"latchwork/gates"
	"latchwork/samples"
	"latchwork/unroll"
)

func same(a, b api.Clauses) bool {
	return a.Vars == b.Vars && slices.EqualFunc(a.List, b.List, slices.Equal[[]int])
}

// refused: is an error told, and nothing else?
func refused(c api.Clauses, e, want api.Errno) bool {
	return e == want && c.Vars == 0 && len(c.List) == 0
}

// good: one input, two states' bits, of which the second begins as it likes, and two Ands: nodes 4 and 5.
func good() api.Circuit {
	return api.Circuit{
		Graph:  api.Graph{Ins: 3, Ands: [][2]int{{2, 5}, {4, 9}}},
		Inputs: 1,
		States: 2,
		Inits:  []int{1, -1},
		Nexts:  []int{9, 6},
		Bads:   []int{10},
		Holds:  []int{3},
	}
}

// K1: by hand.
func TestClausesByHand(t *testing.T) {
	turn, e := blast.Blast(samples.Turn())
	if e != api.OK {
		t.Fatal(e)
	}
	ands := [][]int{{-4, 1}, {-4, -2}, {4, -1, 2}, {-5, 2}, {-5, -4}, {5, -2, 4}}
	more := [][]int{{-9, 6}, {-9, -7}, {9, -6, 7}, {-10, 7}, {-10, -9}, {10, -7, 9}}
	bonds := [][]int{{-7, -4}, {7, 4}, {-8, 3}, {8, -3}}
	fixed, marks := good(), good()
	fixed.Nexts, fixed.Bads, fixed.Holds = []int{0, 1}, []int{0, 0}, nil
	marks.Bads, marks.Holds = []int{0, 7, 11, 0, 7}, []int{1, 0, 8, 1}
	sure := marks
	sure.Bads = []int{10, 1, 0}
	for i, x := range []struct {
		c     api.Circuit
		steps int
		begun bool
		want  api.Clauses
	}{
		{turn, 0, true, api.Clauses{Vars: 1, List: [][]int{{-1}, {1}}}},
		{turn, 0, false, api.Clauses{Vars: 1, List: [][]int{{1}}}},
		{turn, 1, true, api.Clauses{Vars: 2, List: [][]int{{-2, -1}, {2, 1}, {-1}, {2}}}},
		{turn, 2, false, api.Clauses{Vars: 3, List: [][]int{{-2, -1}, {2, 1}, {-3, -2}, {3, 2}, {3}}}},
		{good(), 0, true, api.Clauses{Vars: 5, List: slices.Concat(ands, [][]int{{2}, {-1}, {5}})}},
		{good(), 1, true, api.Clauses{Vars: 10, List: slices.Concat(ands, more, bonds, [][]int{{2}, {-1}, {-6}, {10}})}},
		{good(), 1, false, api.Clauses{Vars: 10, List: slices.Concat(ands, more, bonds, [][]int{{-1}, {-6}, {10}})}},
		{fixed, 1, false, api.Clauses{Vars: 10, List: slices.Concat(ands, more, [][]int{{-7}, {8}, nil})}},
		{marks, 0, false, api.Clauses{Vars: 5, List: slices.Concat(ands, [][]int{nil, {4}, {-3, -5, -3}})}},
		{marks, 1, true, api.Clauses{Vars: 10, List: slices.Concat(ands, more, bonds, [][]int{{2}, nil, {4}, nil, {9}, {-8, -10, -8}})}},
		{sure, 0, false, api.Clauses{Vars: 5, List: slices.Concat(ands, [][]int{nil, {4}})}},
		{api.Circuit{}, 3, true, api.Clauses{List: [][]int{nil}}},
		{api.Circuit{Bads: []int{1}}, 3, true, api.Clauses{}},
		{api.Circuit{Graph: api.Graph{Ins: 2}, Inputs: 2, Bads: []int{5}}, 1, true, api.Clauses{Vars: 4, List: [][]int{{-4}}}},
	} {
		if got, e := unroll.Clauses(x.c, x.steps, x.begun); e != api.OK || !same(got, x.want) {
			t.Errorf("%d: %v %d, want %v", i, got, e, x.want)
		}
	}
}

// told: the clauses, as K1 tells them, once more.
func told(c api.Circuit, steps int, begun bool) api.Clauses {
	f := c.Graph.Ins + len(c.Graph.Ands)
	number := func(step, literal int) int { return (literal/2 + step*f) * (1 - literal%2*2) }
	want := api.Clauses{Vars: f * (steps + 1)}
	add := func(numbers ...int) { want.List = append(want.List, numbers) }
	for step := range steps + 1 {
		for i, pair := range c.Graph.Ands {
			n, a, b := step*f+c.Graph.Ins+1+i, number(step, pair[0]), number(step, pair[1])
			add(-n, a)
			add(-n, b)
			add(n, -a, -b)
		}
	}
	for step := 1; step <= steps; step++ {
		for bit, next := range c.Nexts {
			v := step*f + c.Inputs + 1 + bit
			switch next {
			case 0:
				add(-v)
			case 1:
				add(v)
			default:
				add(-v, number(step-1, next))
				add(v, -number(step-1, next))
			}
		}
	}
	for bit, init := range c.Inits {
		if begun && init >= 0 {
			add((c.Inputs + 1 + bit) * (2*init - 1))
		}
	}
	for step := range steps + 1 {
		for _, hold := range c.Holds {
			if hold == 0 {
				add()
			} else if hold > 1 {
				add(number(step, hold))
			}
		}
	}
	var bads []int
	for _, bad := range c.Bads {
		if bad > 1 {
			bads = append(bads, number(steps, bad))
		}
	}
	if !slices.Contains(c.Bads, 1) {
		add(bads...)
	}
	return want
}

// K1: circuits of all sorts.
func TestClausesOfDrawnCircuits(t *testing.T) {
	d := new(samples.Draw)
	for range 2000 {
		c, steps, begun := d.Circuit(d.Below(4), d.Below(4), d.Below(8)), d.Below(4), d.Below(2) == 0
		if got, e := unroll.Clauses(c, steps, begun); e != api.OK || !same(got, told(c, steps, begun)) {
			t.Fatalf("%v, %d steps, %v: %v %d", c, steps, begun, got, e)
		}
	}
	c := d.Circuit(3, 9, 60)
	if got, e := unroll.Clauses(c, api.MaxSteps, true); e != api.OK || !same(got, told(c, api.MaxSteps, true)) {
		t.Errorf("as many steps as may be: %d", e)
	}
}

// K1: whatever the Ins of each step are, the clauses hold just if these are a trace.
func TestClausesHoldOfTraces(t *testing.T) {
	d := new(samples.Draw)
	held := 0
	for range 300 {
		inputs, states := d.Below(3), d.Below(3)
		c, steps, begun := d.Circuit(inputs, states, d.Below(6)), d.Below(3), d.Below(2) == 0
		list, e := unroll.Clauses(c, steps, begun)
		if e != api.OK {
			t.Fatalf("%v: %d", c, e)
		}
		for _, ins := range samples.Values((steps + 1) * (inputs + states)) {
			values, isTrace := played(t, c, ins, begun)
			if samples.Hold(list.List, values) != isTrace {
				t.Fatalf("%v, %d steps, %v, by %v: is a trace: %v", c, steps, begun, ins, isTrace)
			}
			if isTrace {
				held++
			}
		}
	}
	if held < 500 {
		t.Errorf("just %d traces", held)
	}
}

// played: the values of all nodes of all steps, by the Ins of all steps; and are they a trace that is bad at its end?
func played(t *testing.T, c api.Circuit, ins []bool, begun bool) (values []bool, isTrace bool) {
	t.Helper()
	var nodes []int
	for n := range c.Graph.Ins + len(c.Graph.Ands) {
		nodes = append(nodes, 2*(n+1))
	}
	isTrace = true
	next, bad := make([]int, c.States), false
	if begun {
		next = c.Inits
	} else {
		next = slices.Repeat([]int{-1}, c.States)
	}
	for {
		here := ins[:c.Graph.Ins]
		for i, want := range next {
			isTrace = isTrace && (want < 0 || here[c.Inputs+i] == (want == 1))
		}
		eval := func(literals []int) []bool {
			got, e := gates.Eval(c.Graph, here, literals)
			if e != api.OK {
				t.Fatalf("%v: %d", c, e)
			}
			return got
		}
		values = append(values, eval(nodes)...)
		isTrace = isTrace && !slices.Contains(eval(c.Holds), false)
		bad = slices.Contains(eval(c.Bads), true)
		next = nil
		for _, so := range eval(c.Nexts) {
			next = append(next, map[bool]int{true: 1}[so])
		}
		if ins = ins[c.Graph.Ins:]; len(ins) == 0 {
			return values, isTrace && bad
		}
	}
}

// K1, P1: errors, and which comes first; nothing with them.
func TestClausesRefuses(t *testing.T) {
	wrong, errors := samples.WrongCircuits()
	for i, c := range wrong {
		for _, steps := range []int{-1, 0, 1, 41} {
			if got, e := unroll.Clauses(c, steps, true); !refused(got, e, errors[i]) {
				t.Errorf("circuit %d, %d steps: %v %d, want %d", i, steps, got, e, errors[i])
			}
		}
	}
	for _, kind := range []int{2, 3, 8, 11} {
		c := good()
		c.Inits[1] = kind
		for _, steps := range []int{math.MinInt, -1, api.MaxSteps + 1, math.MaxInt} {
			if got, e := unroll.Clauses(c, steps, true); !refused(got, e, api.ErrRange) {
				t.Errorf("%d steps: %v %d", steps, got, e)
			}
		}
		for _, steps := range []int{0, 1, api.MaxSteps} {
			if got, e := unroll.Clauses(c, steps, true); !refused(got, e, api.ErrKind) {
				t.Errorf("begins as %d, %d steps: %v %d", kind, steps, got, e)
			}
			if got, e := unroll.Clauses(c, steps, false); e != api.OK || !same(got, told(c, steps, false)) {
				t.Errorf("begins as %d, %d steps, not begun: %v %d", kind, steps, got, e)
			}
		}
	}
}

// K1: the limits of clauses, at the edge, and beyond it.
func TestClausesLimits(t *testing.T) {
	broad := func(nodes int) api.Circuit {
		return api.Circuit{Graph: samples.Broad(nodes - 1000), Inputs: 1000}
	}
	marks := func(bads, holds []int) api.Circuit {
		return api.Circuit{Graph: api.Graph{Ins: 1}, Inputs: 1, Bads: bads, Holds: holds}
	}
	times := func(literal, count int) []int { return slices.Repeat([]int{literal}, count) }
	most := api.MaxClauses
	hanging := broad(api.MaxVars + 1)
	hanging.Inputs, hanging.States, hanging.Inits, hanging.Nexts = 999, 1, []int{2}, []int{2}
	both := broad(api.MaxVars + 1)
	both.Holds = times(0, most)
	for i, x := range []struct {
		c     api.Circuit
		steps int
		want  api.Errno
	}{
		{broad(api.MaxVars), 0, api.OK},
		{broad(api.MaxVars + 1), 0, api.ErrRange},
		{broad(api.MaxVars / 2), 1, api.OK},
		{broad(api.MaxVars/2 + 1), 1, api.ErrRange},
		{broad(api.MaxVars / 41), 40, api.OK},
		{broad(api.MaxVars/41 + 1), 40, api.ErrRange},
		{broad(api.MaxGates + 1000), 40, api.ErrRange},
		{marks([]int{1}, times(0, most)), 0, api.OK},
		{marks(nil, times(0, most)), 0, api.ErrMany},
		{marks(nil, times(2, most-1)), 0, api.OK},
		{marks(nil, append(times(1, most), times(2, most-1)...)), 0, api.OK},
		{marks([]int{1}, times(3, most/2)), 1, api.OK},
		{marks([]int{2}, times(3, most/2)), 1, api.ErrMany},
		{marks([]int{1}, times(3, most/41+1)), 40, api.ErrMany},
		{marks(times(2, api.MaxClause), nil), 3, api.OK},
		{marks(times(2, api.MaxClause+1), nil), 3, api.ErrMany},
		{marks(append(times(0, most), times(2, api.MaxClause)...), nil), 3, api.OK},
		{marks(append(times(2, api.MaxClause+1), 1), nil), 3, api.OK},
		{both, 0, api.ErrRange},
		{hanging, 0, api.ErrKind},
	} {
		got, e := unroll.Clauses(x.c, x.steps, true)
		if e != x.want {
			t.Errorf("%d: %d, want %d", i, e, x.want)
		}
		if e == api.OK && !same(got, told(x.c, x.steps, true)) || e != api.OK && !refused(got, e, x.want) {
			t.Errorf("%d: the clauses are others", i)
		}
	}
}

// K1, P2, P3: what is handed in is only read; an answer is new memory, and the same each time.
func TestClausesReads(t *testing.T) {
	c, stayed := samples.RoomyCircuit(good())
	c.Bads = append(c.Bads[:1:1], 4)
	first, _ := unroll.Clauses(c, 2, true)
	second, e := unroll.Clauses(c, 2, true)
	if e != api.OK || !reflect.DeepEqual(first, second) {
		t.Errorf("%v, and then %v %d", first, second, e)
	}
	for i, clause := range first.List {
		for k := range clause {
			clause[k] = 99
		}
		_ = append(clause, 99, 99)
		for k := i + 1; k < len(first.List); k++ {
			if !slices.Equal(first.List[k], second.List[k]) {
				t.Fatalf("clauses %d and %d share memory", i, k)
			}
		}
	}
	if third, _ := unroll.Clauses(c, 2, true); !reflect.DeepEqual(second, third) || !stayed() {
		t.Errorf("%v, and then %v; the circuit stayed: %v", second, third, stayed())
	}
}
