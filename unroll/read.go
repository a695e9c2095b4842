package unroll

import (
	"latchwork/api"
	"latchwork/basics"
	"latchwork/chain"
)

// traceOf a model, of so many steps, by the values of its circuit's clauses.
func traceOf(m api.Model, c api.Circuit, steps int, values []bool) api.Trace {
	t := api.Trace{Start: words(m.Nodes, api.KindState, values[c.Inputs:])}
	for step := range steps + 1 {
		t.Inputs = append(t.Inputs, words(m.Nodes, api.KindInput, values[step*chain.Stride(c):]))
	}
	return t
}

// words of the nodes of a kind, by their bits, the lowest of each first.
func words(nodes []api.Node, kind int, bits []bool) []int {
	var words []int
	for _, number := range basics.OfKind(nodes, kind) {
		word := 0
		for i := range nodes[number].Width {
			if bits[i] {
				word |= 1 << i
			}
		}
		words = append(words, word)
		bits = bits[nodes[number].Width:]
	}
	return words
}
