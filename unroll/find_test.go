package unroll_test

import (
	"math"
	"reflect"
	"testing"

	"latchwork/api"
	"latchwork/samples"
	"latchwork/trace"
	"latchwork/unroll"
)

// found: what Find tells, held to K2: a trace that is bad comes with its steps, and nothing with anything else.
func found(t *testing.T, m api.Model, steps, fuel int) (int, api.Errno) {
	t.Helper()
	x, n, e := unroll.Find(m, steps, fuel)
	if e == api.OK && n >= 0 {
		if bad, f := trace.Bad(m, x); !bad || f != api.OK || len(x.Inputs) != n+1 {
			t.Fatalf("%v: %v, of %d steps: is bad: %v %d", m, x, n, bad, f)
		}
	} else if len(x.Start)+len(x.Inputs) > 0 || e != api.OK && n != 0 || n < -1 {
		t.Fatalf("%v: %v %d %d", m, x, n, e)
	}
	return n, e
}

// within so many steps: the fewest, if they are as few, else -1.
func within(fewest, steps int) int {
	if fewest > steps {
		return -1
	}
	return fewest
}

// input: a model of an input's bit and a state's, which is next as the input is, and begins as 0; bads and holds are of the nodes 0: input, 1: state, 2: not the input, 3: no.
func input(bads, holds []int) api.Model {
	return api.Model{
		Nodes: []api.Node{
			{Kind: api.KindInput, Width: 1},
			{Kind: api.KindState, Width: 1},
			{Kind: api.KindNot, Width: 1, A: 0},
			{Kind: api.KindConst, Width: 1},
		},
		Inits: []api.Pair{{State: 1, Node: 3}},
		Nexts: []api.Pair{{State: 1, Node: 0}},
		Bads:  bads,
		Holds: holds,
	}
}

// K2: by hand.
func TestFindByHand(t *testing.T) {
	free := samples.Turn()
	free.Inits = nil
	for i, x := range []struct {
		m           api.Model
		steps, want int
	}{
		{samples.Turn(), 0, -1},
		{samples.Turn(), 1, 1},
		{samples.Turn(), 40, 1},
		{free, 0, 0},
		{api.Model{}, 40, -1},
		{api.Model{Nodes: []api.Node{{Kind: api.KindInput, Width: 1}}}, 40, -1},
		{api.Model{Nodes: []api.Node{{Kind: api.KindInput, Width: 1}}, Bads: []int{0}}, 0, 0},
		{api.Model{Nodes: []api.Node{{Kind: api.KindConst, Width: 1, N: 1}}, Bads: []int{0}}, 3, 0},
		{api.Model{Nodes: []api.Node{{Kind: api.KindConst, Width: 1}}, Bads: []int{0}}, 3, -1},
		{input(nil, nil), 40, -1},
		{input([]int{0}, nil), 3, 0},
		{input([]int{1}, nil), 0, -1},
		{input([]int{1}, nil), 3, 1},
		{input([]int{3, 1, 3}, nil), 3, 1},
		{input([]int{1, 0}, nil), 3, 0},
		{input([]int{0}, []int{2}), 40, -1}, // a Hold must hold at the last step, too
		{input([]int{1}, []int{2}), 40, -1}, // and at those ahead of it
		{input([]int{1}, []int{0}), 40, 1},
		{input([]int{1, 2}, []int{3}), 40, -1},
		{samples.Counter(8, 1, 40), 40, 40},
		{samples.Counter(8, 1, 40), 39, -1},
		{samples.Counter(8, 1, 41), 40, -1},
		{samples.Counter(8, 3, 140), 40, 20},
		{samples.Counter(3, 1, 7), 40, 7},
		{samples.Counter(3, 1, 7), 6, -1},
		{samples.Sums(3), 40, -1},
		{samples.Sums(5), 40, -1},
	} {
		if n, e := found(t, x.m, x.steps, api.MaxFuel); n != x.want || e != api.OK {
			t.Errorf("%d: %d %d, want %d", i, n, e, x.want)
		}
	}
	if x, _, _ := unroll.Find(samples.Turn(), 1, api.MaxFuel); !reflect.DeepEqual(x.Start, []int{0}) {
		t.Errorf("the document's: begins as %v", x.Start)
	}
}

// K2: of few nodes, bits and steps, with all the fuel there is: never too long. With less it may be, but is not told wrong.
func TestFindLittleModels(t *testing.T) {
	d := new(samples.Draw)
	told := map[int]int{}
	for range 3000 {
		m := d.Model(d.Below(3), d.Below(4), d.Below(7))
		if len(m.Nodes) > 12 {
			t.Fatalf("%d nodes", len(m.Nodes))
		}
		fewest := samples.MachineOf(m).Fewest()
		for steps := range 3 {
			want := within(fewest, steps)
			if n, e := found(t, m, steps, api.MaxFuel); n != want || e != api.OK {
				t.Fatalf("%v, %d steps: %d %d, want %d", m, steps, n, e, want)
			}
			if n, e := found(t, m, steps, d.Below(3)); e != api.ErrFuel && (n != want || e != api.OK) {
				t.Fatalf("%v, %d steps, little fuel: %d %d, want %d", m, steps, n, e, want)
			}
			told[want]++
		}
	}
	if min(told[-1], told[0], told[1]) < 20 {
		t.Errorf("told: %v", told)
	}
}

// K2: those of them that take the longest.
func TestFindReckoners(t *testing.T) {
	d := new(samples.Draw)
	told := map[int]int{}
	for range 300 {
		m := d.Reckoner(5 + d.Below(4))
		want := within(samples.MachineOf(m).Fewest(), 2)
		if n, e := found(t, m, 2, api.MaxFuel); n != want || e != api.OK {
			t.Fatalf("%v: %d %d, want %d", m, n, e, want)
		}
		told[want]++
	}
	if min(told[-1], told[0], told[1], told[2]) < 10 {
		t.Errorf("told: %v", told)
	}
}

// K2: models of more bits and steps: seldom too long, and never told wrong.
func TestFindGreaterModels(t *testing.T) {
	d := new(samples.Draw)
	told := map[int]int{}
	tooLong := 0
	for range 600 {
		m := d.Model(d.Below(5), d.Below(7), d.Below(30))
		if d.Below(2) == 0 {
			m.Bads = m.Bads[:1]
		}
		fewest := samples.MachineOf(m).Fewest()
		for _, steps := range []int{0, 1 + d.Below(3), 4 + d.Below(37)} {
			want := within(fewest, steps)
			n, e := found(t, m, steps, api.MaxFuel)
			switch {
			case e == api.ErrFuel:
				tooLong++
			case n != want || e != api.OK:
				t.Fatalf("%v, %d steps: %d %d, want %d", m, steps, n, e, want)
			}
			told[min(want, 1)]++
		}
	}
	if tooLong > 0 || min(told[-1], told[0], told[1]) < 20 {
		t.Errorf("%d took too long, told: %v", tooLong, told)
	}
}

// K2: a model whose steps are soon more than clauses may be ends, too: a counter that comes to what is bad by 200 steps, or by others that are hard to reckon.
func TestFindGreatestModel(t *testing.T) {
	m := samples.Counter(8, 1, 200)
	m.Nodes = append(m.Nodes, api.Node{Kind: api.KindJoin, Width: 2, A: 0, B: 0}, api.Node{Kind: api.KindSpread, Width: 8, A: 7})
	for len(m.Nodes) < api.MaxNodes-1 {
		last := len(m.Nodes) - 1
		m.Nodes = append(m.Nodes, api.Node{Kind: api.KindDiv - last%2, Width: 8, A: 2 + last%2, B: last})
	}
	last := len(m.Nodes) - 1
	m.Nodes = append(m.Nodes, api.Node{Kind: api.KindIf, Width: 8, A: 0, B: 3, C: last})
	m.Nexts[0].Node = last + 1
	fewest := samples.MachineOf(m).Fewest()
	for _, steps := range []int{0, 1, api.MaxSteps} {
		if n, e := found(t, m, steps, 1000); e != api.ErrFuel && (n != within(fewest, steps) || e != api.OK) {
			t.Errorf("%d steps: %d %d, want %d", steps, n, e, within(fewest, steps))
		}
	}
}

// K2, P1: errors, and which comes first; nothing with them.
func TestFindRefuses(t *testing.T) {
	wrong, errors := samples.Faulty()
	for i, m := range wrong {
		for _, x := range [][2]int{{0, 0}, {-1, 0}, {0, -1}, {41, api.MaxFuel + 1}} {
			if _, e := found(t, m, x[0], x[1]); e != errors[i] {
				t.Errorf("model %d, %v: %d, want %d", i, x, e, errors[i])
			}
		}
	}
	for _, x := range [][2]int{{-1, 0}, {api.MaxSteps + 1, 0}, {math.MinInt, 0}, {math.MaxInt, 0}, {0, -1}, {0, api.MaxFuel + 1}, {40, math.MinInt}, {1, math.MaxInt}} {
		for _, m := range []api.Model{{}, samples.Turn(), samples.Lever()} {
			if _, e := found(t, m, x[0], x[1]); e != api.ErrRange {
				t.Errorf("%v: %d", x, e)
			}
		}
	}
}

// K2, P2, P3: what is handed in is only read; an answer is new memory, and the same each time.
func TestFindReads(t *testing.T) {
	for _, model := range []api.Model{samples.Turn(), samples.Counter(8, 2, 5), samples.Counter(5, 2, 20)} {
		m, stayed := samples.Roomy(model)
		first, n, e := unroll.Find(m, 10, api.MaxFuel)
		second, n2, e2 := unroll.Find(m, 10, api.MaxFuel)
		if n < 1 || n != n2 || e != api.OK || e2 != api.OK || !reflect.DeepEqual(first, second) {
			t.Fatalf("%v %d %d, and then %v %d %d", first, n, e, second, n2, e2)
		}
		first.Start[0] = 99
		for i, inputs := range first.Inputs {
			_ = append(inputs, 99)
			for k := range inputs {
				inputs[k] = 99
			}
			if !reflect.DeepEqual(first.Inputs[i+1:], second.Inputs[i+1:]) {
				t.Fatalf("inputs %d share memory", i)
			}
		}
		if third, _, _ := unroll.Find(m, 10, api.MaxFuel); !reflect.DeepEqual(second, third) || !stayed() {
			t.Errorf("%v, and then %v; the model stayed: %v", second, third, stayed())
		}
	}
}
