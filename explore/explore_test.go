package explore_test

import (
	"math"
	"slices"
	"testing"

	"latchwork/api"
	"latchwork/explore"
	"latchwork/samples"
	"latchwork/trace"
	"latchwork/unroll"
)

// gate: a state of 2 bits that begins as 0, goes up by an input's bit, and stays at 3; bads and holds are of the nodes 0: the input, 3: is it 3, 4: is it not, 5: no, 6: not the input.
func gate(bads, holds []int) api.Model {
	return api.Model{
		Nodes: []api.Node{
			{Kind: api.KindInput, Width: 1},
			{Kind: api.KindState, Width: 2},
			{Kind: api.KindConst, Width: 2, N: 3},
			{Kind: api.KindEq, Width: 1, A: 1, B: 2},
			{Kind: api.KindNot, Width: 1, A: 3},
			{Kind: api.KindConst, Width: 1},
			{Kind: api.KindNot, Width: 1, A: 0},
			{Kind: api.KindWide, Width: 2, A: 0},
			{Kind: api.KindAdd, Width: 2, A: 1, B: 7},
			{Kind: api.KindIf, Width: 2, A: 3, B: 1, C: 8},
			{Kind: api.KindConst, Width: 2},
		},
		Inits: []api.Pair{{State: 1, Node: 10}},
		Nexts: []api.Pair{{State: 1, Node: 9}},
		Bads:  bads,
		Holds: holds,
	}
}

// bits: as many states of one bit as there may be, each next what the one ahead of it is, and the first one what the input is; all begin as 0, and it is bad if the last one is 1.
func bits() api.Model {
	m := api.Model{Nodes: []api.Node{{Kind: api.KindInput, Width: 1}}}
	for i := range api.MaxStateBits {
		m.Nodes = append(m.Nodes, api.Node{Kind: api.KindState, Width: 1})
		m.Inits = append(m.Inits, api.Pair{State: i + 1, Node: api.MaxStateBits + 1})
		m.Nexts = append(m.Nexts, api.Pair{State: i + 1, Node: i})
	}
	m.Nodes = append(m.Nodes, api.Node{Kind: api.KindConst, Width: 1})
	m.Bads = []int{api.MaxStateBits}
	return m
}

// M1: by hand.
func TestExploreByHand(t *testing.T) {
	free, stuck := samples.Turn(), samples.Turn()
	free.Inits = nil
	stuck.Holds = []int{0}
	for i, x := range []struct {
		m    api.Model
		want api.Found
	}{
		{samples.Turn(), api.Found{Reached: 2, Deep: 1, Bad: true, BadDeep: 1}}, // the document's
		{free, api.Found{Reached: 2, Bad: true}},
		{stuck, api.Found{Reached: 1}},
		{api.Model{}, api.Found{Reached: 1}},
		{api.Model{Nodes: []api.Node{{Kind: api.KindInput, Width: 1}}}, api.Found{Reached: 1}},
		{api.Model{Nodes: []api.Node{{Kind: api.KindInput, Width: 1}}, Bads: []int{0}}, api.Found{Reached: 1, Bad: true}},
		{gate(nil, nil), api.Found{Reached: 4, Deep: 3}},
		{gate([]int{3}, nil), api.Found{Reached: 4, Deep: 3, Bad: true, BadDeep: 3}},
		{gate([]int{3}, []int{4}), api.Found{Reached: 4, Deep: 3}}, // 3 can be, but nothing holds there
		{gate([]int{3}, []int{6}), api.Found{Reached: 1}},          // the input must be 0
		{gate([]int{6}, []int{0}), api.Found{Reached: 4, Deep: 3}}, // it must be 1, also at the last step
		{gate([]int{0}, []int{4}), api.Found{Reached: 4, Deep: 3, Bad: true}},
		{gate([]int{0, 3}, []int{5}), api.Found{Reached: 1}},
		{gate([]int{5, 3}, []int{0}), api.Found{Reached: 4, Deep: 3, Bad: true, BadDeep: 3}},
		{bits(), api.Found{Reached: 1024, Deep: 10, Bad: true, BadDeep: 10}},
		{samples.Counter(8, 1, 200), api.Found{Reached: 256, Deep: 255, Bad: true, BadDeep: 200}}, // more steps than a trace may have
		{samples.Counter(8, 3, 255), api.Found{Reached: 256, Deep: 37, Bad: true, BadDeep: 37}},
		{samples.Sums(5), api.Found{Reached: 32, Deep: 1}},
	} {
		if got, e := explore.Explore(x.m); got != x.want || e != api.OK {
			t.Errorf("%d: %v %d, want %v", i, got, e, x.want)
		}
	}
}

// M1: by hand.
func TestCanByHand(t *testing.T) {
	ones := slices.Repeat([]int{1}, api.MaxStateBits)
	for i, x := range []struct {
		m      api.Model
		states []int
		want   bool
	}{
		{samples.Turn(), []int{0}, true},
		{samples.Turn(), []int{1}, true},
		{api.Model{}, nil, true},
		{api.Model{}, []int{}, true},
		{gate(nil, nil), []int{3}, true},
		{gate(nil, []int{4}), []int{3}, true}, // at the last step nothing need hold
		{gate(nil, []int{6}), []int{0}, true},
		{gate(nil, []int{6}), []int{1}, false},
		{gate(nil, []int{5}), []int{0}, true},
		{gate(nil, []int{5}), []int{3}, false},
		{bits(), ones, true},
		{samples.Counter(8, 1, 0), []int{255}, true},
		{samples.Sums(3), []int{5, 3}, true},
		{samples.Sums(3), []int{3, 5}, true},
		{samples.Sums(3), []int{5, 4}, false},
		{samples.Lever(), []int{1, 0, 6}, true},
		{samples.Lever(), []int{1, 1, 6}, true},
		{samples.Lever(), []int{1, 0, 5}, false},
	} {
		if got, e := explore.Can(x.m, x.states); got != x.want || e != api.OK {
			t.Errorf("%d: %v: %v %d, want %v", i, x.states, got, e, x.want)
		}
	}
}

// fewest steps by which each state can be, and by which a trace is bad, or -1: by going on, as often as there are states, from all states that can be by just so many steps.
func fewest(x samples.Machine) (can []int, bad int) {
	can, bad = slices.Repeat([]int{-1}, len(x.Moves)), -1
	here := x.Begun
	for steps := range len(x.Moves) + 1 {
		var next []int
		for _, state := range here {
			if can[state] < 0 {
				can[state] = steps
			}
			for _, move := range x.Moves[state] {
				if move.Holds && move.Bad && bad < 0 {
					bad = steps
				}
				if move.Holds {
					next = append(next, move.Next)
				}
			}
		}
		slices.Sort(next)
		here = slices.Compact(next)
	}
	return can, bad
}

// drawn models: some of any kind, and some in which one can go far.
func drawn(d *samples.Draw) api.Model {
	if d.Below(2) == 0 {
		return d.Model(d.Below(4), d.Below(6), d.Below(20))
	}
	return d.Shuffler(2, 1+d.Below(2), 1+d.Below(3))
}

// M1: what can be, and by how many steps.
func TestExploreDrawn(t *testing.T) {
	d := new(samples.Draw)
	told := map[bool]int{}
	far := 0
	for range 500 {
		m := drawn(d)
		can, bad := fewest(samples.MachineOf(m))
		want := api.Found{Bad: bad >= 0, BadDeep: max(bad, 0), Deep: slices.Max(can)}
		for state, steps := range can {
			if steps >= 0 {
				want.Reached++
			}
			states := samples.Unpacked(m, api.KindState, state)
			if is, e := explore.Can(m, states); is != (steps >= 0) || e != api.OK {
				t.Fatalf("%v, %v: %v %d, by %d steps", m, states, is, e, steps)
			}
		}
		if got, e := explore.Explore(m); got != want || e != api.OK {
			t.Fatalf("%v: %v %d, want %v", m, got, e, want)
		}
		told[want.Bad]++
		if want.Deep > 4 {
			far++
		}
	}
	if min(told[true], told[false], far) < 50 {
		t.Errorf("told: %v, %d are far", told, far)
	}
}

// M1: a state that a trace comes to can be, if its Holds hold at all its Inputs but the last one; and by no fewer steps than the fewest is one bad.
func TestTracesAreFound(t *testing.T) {
	d := new(samples.Draw)
	met := map[bool]int{}
	for range 400 {
		m := drawn(d)
		found, _ := explore.Explore(m)
		for range 8 {
			x := d.Trace(m, d.Below(6))
			states, e := trace.Play(m, x)
			if e != api.OK {
				t.Fatal(e)
			}
			last := len(x.Inputs) - 1
			if can, _ := explore.Can(m, states[last]); !can && holdAhead(m, x) {
				t.Fatalf("%v: %v can't be, but comes of %v", m, states[last], x)
			}
			bad, _ := trace.Bad(m, x)
			if bad && (!found.Bad || found.BadDeep > last) {
				t.Fatalf("%v: %v, but %v is bad", m, found, x)
			}
			met[bad]++
		}
	}
	if min(met[true], met[false]) < 100 {
		t.Errorf("met: %v", met)
	}
}

// holdAhead: do all Holds hold at each of a trace's Inputs but the last one? (All Bads are made to be, so that Bad tells it.)
func holdAhead(m api.Model, x api.Trace) bool {
	m = samples.Copy(m)
	m.Nodes = append(m.Nodes, api.Node{Kind: api.KindConst, Width: 1, N: 1})
	m.Bads = []int{len(m.Nodes) - 1}
	x.Inputs = x.Inputs[:len(x.Inputs)-1]
	held, _ := trace.Bad(m, x)
	return held || len(x.Inputs) == 0
}

// M2: it is bad just if a trace of at most Deep steps is.
func TestBadWithinDeep(t *testing.T) {
	d := new(samples.Draw)
	told := map[bool]int{}
	for range 300 {
		m := drawn(d)
		found, _ := explore.Explore(m)
		if found.Deep > api.MaxSteps {
			continue
		}
		_, n, e := unroll.Find(m, found.Deep, api.MaxFuel)
		if e != api.OK || found.Bad != (n >= 0) || found.Bad && n != found.BadDeep {
			t.Fatalf("%v: %v, and a trace of %d steps, %d", m, found, n, e)
		}
		told[found.Bad]++
	}
	if min(told[true], told[false]) < 30 {
		t.Errorf("told: %v", told)
	}
}

// M1, P1: errors, and which comes first; nothing with them.
func TestRefuses(t *testing.T) {
	wrong, errors := samples.Faulty()
	for i, m := range wrong {
		if got, e := explore.Explore(m); got != (api.Found{}) || e != errors[i] {
			t.Errorf("model %d: %v %d, want %d", i, got, e, errors[i])
		}
		for _, states := range [][]int{nil, {1, 0, 6}, {-1, 0, 6}, {1, 2, 3, 4}} {
			if can, e := explore.Can(m, states); can || e != errors[i] {
				t.Errorf("model %d, %v: %v %d, want %d", i, states, can, e, errors[i])
			}
		}
	}
	for _, x := range []struct {
		states []int
		want   api.Errno
	}{
		{nil, api.ErrMany},
		{[]int{1, 0}, api.ErrMany},
		{[]int{-1, 8}, api.ErrMany},
		{[]int{1, 0, 6, 0}, api.ErrMany},
		{make([]int, 100), api.ErrMany},
		{[]int{4, 0, 6}, api.ErrRange},
		{[]int{1, -1, 6}, api.ErrRange},
		{[]int{1, 2, 6}, api.ErrRange},
		{[]int{1, 0, 8}, api.ErrRange},
		{[]int{math.MinInt, 0, 6}, api.ErrRange},
		{[]int{1, 0, math.MaxInt}, api.ErrRange},
	} {
		if can, e := explore.Can(samples.Lever(), x.states); can || e != x.want {
			t.Errorf("%v: %v %d, want %d", x.states, can, e, x.want)
		}
	}
}

// M1, P1: a model with as many nodes, states and inputs as there may be.
func TestGreatestModel(t *testing.T) {
	m := samples.Counter(8, 6, 1)
	m.Nodes = append(m.Nodes, api.Node{Kind: api.KindState, Width: 2}, api.Node{Kind: api.KindCut, Width: 2, A: 3, N: 6})
	m.Nexts = append(m.Nexts, api.Pair{State: 7, Node: 8})
	for len(m.Nodes) < api.MaxNodes {
		last := len(m.Nodes) - 1
		m.Nodes = append(m.Nodes, api.Node{Kind: api.KindNot, Width: m.Nodes[last].Width, A: last})
	}
	// Of its two highest bits the other state is what the next one has.
	want := api.Found{Reached: 259, Deep: 5, Bad: true, BadDeep: 1}
	if got, e := explore.Explore(m); got != want || e != api.OK {
		t.Errorf("%v %d, want %v", got, e, want)
	}
}

// M1, P2, P3: what is handed in is only read, and an answer is the same each time.
func TestReads(t *testing.T) {
	for _, model := range []api.Model{samples.Turn(), samples.Lever(), samples.Counter(5, 2, 20), samples.Sums(3)} {
		m, stayed := samples.Roomy(model)
		first, e := explore.Explore(m)
		if again, f := explore.Explore(m); first != again || e != f || e != api.OK {
			t.Errorf("%v %d, and then %v %d", first, e, again, f)
		}
		room := append(samples.Unpacked(m, api.KindState, 1), 77, 78)
		states := room[:len(room)-2]
		can, e := explore.Can(m, states)
		if again, f := explore.Can(m, states); can != again || e != f || e != api.OK {
			t.Errorf("%v: %v %d, and then %v %d", states, can, e, again, f)
		}
		if !stayed() || !slices.Equal(room, append(samples.Unpacked(m, api.KindState, 1), 77, 78)) {
			t.Errorf("changed: %v, %v", m, room)
		}
	}
}
