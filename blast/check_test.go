package blast_test

import (
	"math"
	"slices"
	"testing"

	"latchwork/api"
	"latchwork/blast"
	"latchwork/samples"
)

// good: a circuit that passes: one input, two states' bits, and two Ands; its last literal is 11.
func good() api.Circuit {
	return api.Circuit{
		Graph:  api.Graph{Ins: 3, Ands: [][2]int{{2, 4}, {3, 9}}},
		Inputs: 1,
		States: 2,
		Inits:  []int{-1, 1},
		Nexts:  []int{8, 11},
		Bads:   []int{10, 0},
		Holds:  []int{1, 7},
	}
}

// G2: circuits that pass, at the edges.
func TestCircuitsThatPass(t *testing.T) {
	inits, none, bare := good(), good(), good()
	inits.Inits = []int{10, 11} // that they hang on nothing is not asked
	none.Bads, none.Holds = nil, []int{}
	bare.Graph.Ands, bare.Nexts, bare.Bads = nil, []int{7, 0}, []int{6}
	for i, c := range []api.Circuit{
		{},
		{Inits: []int{}, Nexts: []int{}, Bads: []int{0, 1}, Holds: []int{1}},
		{Graph: api.Graph{Ins: 1000}, Inputs: 1000},
		{Graph: api.Graph{Ins: 2}, States: 2, Inits: []int{-1, -1}, Nexts: []int{5, 4}},
		good(), inits, none, bare,
	} {
		if e := blast.Check(c); e != api.OK {
			t.Errorf("%d: %d", i, e)
		}
	}
}

// alter a good circuit in one way, or in some.
func alter(ways ...func(c *api.Circuit)) api.Circuit {
	c := good()
	for _, way := range ways {
		way(&c)
	}
	return c
}

// G2, P1: each error, and which comes first.
func TestWrongCircuits(t *testing.T) {
	type circuit = api.Circuit
	bits := func(inputs, states int) func(*circuit) {
		return func(c *circuit) { c.Inputs, c.States = inputs, states }
	}
	graph := func(g api.Graph) func(*circuit) { return func(c *circuit) { c.Graph = g } }
	nexts := func(l ...int) func(*circuit) { return func(c *circuit) { c.Nexts = l } }
	inits := func(l ...int) func(*circuit) { return func(c *circuit) { c.Inits = l } }
	bads := func(l ...int) func(*circuit) { return func(c *circuit) { c.Bads = l } }
	holds := func(l ...int) func(*circuit) { return func(c *circuit) { c.Holds = l } }
	twice := api.Graph{Ins: 3, Ands: [][2]int{{2, 4}, {2, 4}}}
	for i, x := range []struct {
		c    circuit
		want api.Errno
	}{
		{alter(graph(api.Graph{Ins: -1})), api.ErrRange},
		{alter(graph(api.Graph{Ins: 1001}), bits(1000, 1)), api.ErrRange},
		{alter(graph(api.Graph{Ins: 3, Ands: make([][2]int, api.MaxGates+1)})), api.ErrMany},
		{alter(graph(api.Graph{Ins: 3, Ands: [][2]int{{4, 2}}})), api.ErrState},
		{alter(graph(twice)), api.ErrTwice},
		{alter(bits(-1, 4)), api.ErrState},
		{alter(bits(4, -1)), api.ErrState},
		{alter(bits(1, 1)), api.ErrState},
		{alter(bits(2, 2)), api.ErrState},
		{alter(bits(0, 2)), api.ErrState},
		{alter(bits(math.MaxInt, math.MaxInt)), api.ErrState},
		{alter(bits(math.MinInt, math.MinInt+3)), api.ErrState},
		{alter(bits(math.MinInt, math.MaxInt)), api.ErrState},
		{alter(bits(math.MaxInt, math.MinInt+4)), api.ErrState},
		{alter(bits(2, 1)), api.ErrForm},
		{alter(inits()), api.ErrForm},
		{alter(inits(-1)), api.ErrForm},
		{alter(inits(-1, 0, 1)), api.ErrForm},
		{alter(nexts()), api.ErrForm},
		{alter(nexts(2)), api.ErrForm},
		{alter(nexts(2, 3, 4)), api.ErrForm},
		{alter(inits(-1, -2)), api.ErrNone},
		{alter(inits(12, -1)), api.ErrNone},
		{alter(inits(math.MinInt, -1)), api.ErrNone},
		{alter(nexts(-1, 2)), api.ErrNone},
		{alter(nexts(2, 12)), api.ErrNone},
		{alter(bads(-1)), api.ErrNone},
		{alter(bads(0, 1, 12)), api.ErrNone},
		{alter(holds(-1)), api.ErrNone},
		{alter(holds(0, 1, math.MaxInt)), api.ErrNone},
		// The first one that is named.
		{alter(graph(twice), bits(9, 9), nexts(), bads(99)), api.ErrTwice},
		{alter(bits(9, 9), inits(), bads(99)), api.ErrState},
		{alter(inits(99), bads(99)), api.ErrForm},
		{alter(nexts(99, 99, 99), inits(-2, -2)), api.ErrForm},
	} {
		if e := blast.Check(x.c); e != x.want {
			t.Errorf("%d: %d, want %d", i, e, x.want)
		}
	}
}

// G2, P2: what is checked is only read.
func TestCheckReads(t *testing.T) {
	c, want := good(), good()
	long := append(c.Nexts, 77, 78)
	c.Nexts = long[:2]
	blast.Check(c)
	if !slices.Equal(long, []int{8, 11, 77, 78}) || !slices.Equal(c.Graph.Ands, want.Graph.Ands) || !slices.Equal(c.Inits, want.Inits) {
		t.Errorf("changed: %v, %v", c, long)
	}
}

// G2, P1: any numbers; Check is G2, said once more, of a graph that passes.
func TestCheckAnyNumbers(t *testing.T) {
	d := new(samples.Draw)
	told := map[api.Errno]int{}
	list := func(few int) []int {
		var l []int
		for range few {
			l = append(l, d.Below(14)-2)
		}
		return l
	}
	for range 20000 {
		c := api.Circuit{Graph: good().Graph, Inputs: d.Below(5) - 1}
		c.States = 3 - c.Inputs
		if d.Below(5) == 0 {
			c.States = d.Below(4)
		}
		c.Inits, c.Nexts = list(max(0, c.States)), list(max(0, c.States))
		if d.Below(5) == 0 {
			c.Nexts = list(d.Below(3))
		}
		c.Bads, c.Holds = list(d.Below(2)), list(d.Below(2))
		beyond := func(n int) bool { return n < 0 || n > 11 }
		want := api.OK
		switch {
		case c.Inputs < 0 || c.States < 0 || c.Inputs+c.States != 3:
			want = api.ErrState
		case len(c.Nexts) != c.States:
			want = api.ErrForm
		case slices.ContainsFunc(slices.Concat(c.Nexts, c.Bads, c.Holds), beyond) || slices.Contains(c.Inits, -2):
			want = api.ErrNone
		}
		told[want]++
		if e := blast.Check(c); e != want {
			t.Fatalf("%v: %d, want %d", c, e, want)
		}
	}
	if len(told) != 4 || min(told[api.OK], told[api.ErrState], told[api.ErrForm], told[api.ErrNone]) < 1000 {
		t.Errorf("told: %v", told)
	}
}
