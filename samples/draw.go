// Package samples: models, traces, graphs and numbers for the tests of the layers; no layer uses it.
package samples

import (
	"slices"

	"latchwork/api"
	"latchwork/basics"
)

// Draw: numbers that look as if by chance, and are the same each time.
type Draw uint64

// Below n: one of the numbers from 0 on.
func (d *Draw) Below(n int) int {
	*d = *d*6364136223846793005 + 1442695040888963407
	return int(uint64(*d) >> 33 % uint64(n))
}

// Words: one for each node of a kind.
func (d *Draw) Words(m api.Model, kind int) []int {
	var words []int
	for _, number := range basics.OfKind(m.Nodes, kind) {
		words = append(words, d.Below(1<<m.Nodes[number].Width))
	}
	return words
}

// Altered: a text that is a little other than this one, with one of the pieces in place of some bytes, or of none.
func (d *Draw) Altered(s string, pieces []string) string {
	from := d.Below(len(s) + 1)
	to := min(len(s), from+d.Below(3))
	return s[:from] + pieces[d.Below(len(pieces))] + s[to:]
}

// Model that passes its check: with inputs and states of so many bits, and so many nodes beside these.
func (d *Draw) Model(inputBits, stateBits, others int) api.Model {
	g := grower{Draw: d}
	g.Nodes = append(g.Nodes, api.Node{Kind: api.KindConst, Width: 1, N: d.Below(2)})
	for inputBits+stateBits+others > 0 {
		switch d.Below(4) {
		case 0:
			inputBits -= g.leaf(api.KindInput, inputBits)
		case 1:
			stateBits -= g.leaf(api.KindState, stateBits)
		default:
			others -= g.other(others)
		}
	}
	g.pairs()
	for range d.Below(3) {
		g.Holds = append(g.Holds, g.ofWidth(1))
	}
	for range 1 + d.Below(3) {
		g.Bads = append(g.Bads, g.ofWidth(1))
	}
	return g.Model
}

// Trace of a model, of so many steps.
func (d *Draw) Trace(m api.Model, steps int) api.Trace {
	t := api.Trace{Start: d.Words(m, api.KindState)}
	for range steps + 1 {
		t.Inputs = append(t.Inputs, d.Words(m, api.KindInput))
	}
	return t
}

// Graph that passes its check: with so many Ins, and at most so many Ands.
func (d *Draw) Graph(ins, ands int) api.Graph {
	g := api.Graph{Ins: ins}
	for range ands {
		literals := 2 * (1 + ins + len(g.Ands))
		a, b := d.Below(literals), d.Below(literals)
		pair := [2]int{min(a, b), max(a, b)}
		if pair[0] > 1 && pair[0]/2 != pair[1]/2 && !slices.Contains(g.Ands, pair) {
			g.Ands = append(g.Ands, pair)
		}
	}
	return g
}
