// Package samples: models, traces, graphs and numbers for the tests of the layers; no layer uses it.
package samples

import (
	"slices"

	"latchwork/api"
	"latchwork/basics"
)

// Draw: numbers that look as if by chance, and are the same each time.
type Draw uint64

// Below n: one of the numbers from 0 on.
func (d *Draw) Below(n int) int {
	*d = *d*6364136223846793005 + 1442695040888963407
	return int(uint64(*d) >> 33 % uint64(n))
}

// Words: one for each node of a kind.
func (d *Draw) Words(m api.Model, kind int) []int {
	var words []int
	for _, number := range basics.OfKind(m.Nodes, kind) {
		words = append(words, d.Below(1<<m.Nodes[number].Width))
	}
	return words
}

// Altered: a text that is a little other than this one, with one of the pieces in place of some bytes, or of none.
func (d *Draw) Altered(s string, pieces []string) string {
	from := d.Below(len(s) + 1)
	to := min(len(s), from+d.Below(3))
	return s[:from] + pieces[d.Below(len(pieces))] + s[to:]
}

// Model that passes its check: with inputs and states of so many bits, and so many nodes beside these.
func (d *Draw) Model(inputBits, stateBits, others int) api.Model {
	g := grower{Draw: d}
	g.Nodes = append(g.Nodes, api.Node{Kind: api.KindConst, Width: 1, N: d.Below(2)})
	for inputBits+stateBits+others > 0 {
		switch d.Below(4) {
		case 0:
			inputBits -= g.leaf(api.KindInput, inputBits)
		case 1:
			stateBits -= g.leaf(api.KindState, stateBits)
		default:
			others -= g.other(others)
		}
	}
	g.pairs()
	for range d.Below(3) {
		g.Holds = append(g.Holds, g.ofWidth(1))
	}
	for range 1 + d.Below(3) {
		g.Bads = append(g.Bads, g.ofWidth(1))
	}
	return g.Model
}

// Reckoner: a model of 12 nodes, with inputs of 2 bits and states of 3, that is reckoned by words of so many bits, from 5 on. It begins as it likes, and is bad if one of these is just so; or it begins as a number, and is bad if it is another one.
func (d *Draw) Reckoner(width int) api.Model {
	m := api.Model{Nodes: []api.Node{
		{Kind: api.KindInput, Width: 2},
		{Kind: api.KindState, Width: 3},
		{Kind: api.KindJoin, Width: 5, A: 0, B: 1},
		{Kind: api.KindConst, Width: width, N: d.Below(1 << width)},
		{Kind: api.KindWide + d.Below(2), Width: width, A: 2},
	}}
	for len(m.Nodes) < 8 {
		kind := api.KindAdd + d.Below(api.KindShr-api.KindAdd+1)
		m.Nodes = append(m.Nodes, api.Node{Kind: kind, Width: width, A: len(m.Nodes) - 1, B: 3 + d.Below(len(m.Nodes)-3)})
	}
	begin, end := d.Below(8), d.Below(8)
	m.Nodes = append(m.Nodes,
		api.Node{Kind: api.KindCut, Width: 3, A: 7, N: d.Below(width - 2)},
		api.Node{Kind: api.KindConst, Width: 3, N: begin},
		api.Node{Kind: api.KindConst, Width: 3, N: end},
		api.Node{Kind: api.KindEq, Width: 1, A: 1, B: 10},
	)
	m.Inits, m.Nexts, m.Bads = []api.Pair{{State: 1, Node: 9}}, []api.Pair{{State: 1, Node: 8}}, []int{11}
	if d.Below(3) == 0 {
		m.Inits, m.Nodes[10], m.Nodes[11].A = nil, m.Nodes[3], 7
	}
	return m
}

// Trace of a model, of so many steps.
func (d *Draw) Trace(m api.Model, steps int) api.Trace {
	t := api.Trace{Start: d.Words(m, api.KindState)}
	for range steps + 1 {
		t.Inputs = append(t.Inputs, d.Words(m, api.KindInput))
	}
	return t
}

// Graph that passes its check: with so many Ins, and at most so many Ands.
func (d *Draw) Graph(ins, ands int) api.Graph {
	g := api.Graph{Ins: ins}
	for range ands {
		literals := 2 * (1 + ins + len(g.Ands))
		a, b := d.Below(literals), d.Below(literals)
		pair := [2]int{min(a, b), max(a, b)}
		if pair[0] > 1 && pair[0]/2 != pair[1]/2 && !slices.Contains(g.Ands, pair) {
			g.Ands = append(g.Ands, pair)
		}
	}
	return g
}

// Circuit that passes its check: with so many bits of inputs and of states, and at most so many Ands. What states begin as hangs on nothing.
func (d *Draw) Circuit(inputs, states, ands int) api.Circuit {
	c := api.Circuit{Graph: d.Graph(inputs+states, ands), Inputs: inputs, States: states}
	literals := 2 * (1 + c.Graph.Ins + len(c.Graph.Ands))
	some := func(count int) []int {
		var found []int
		for range count {
			found = append(found, d.Below(literals))
		}
		return found
	}
	for range states {
		c.Inits = append(c.Inits, d.Below(3)-1)
	}
	c.Nexts, c.Bads, c.Holds = some(states), some(d.Below(4)), some(d.Below(3))
	return c
}
