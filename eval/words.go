package eval

import (
	"latchwork/api"
	"latchwork/basics"
	"latchwork/word"
)

// fit: may these be the words of the nodes of a kind?
func fit(m api.Model, kind int, given []int) api.Errno {
	numbers := basics.OfKind(m.Nodes, kind)
	if len(given) != len(numbers) {
		return api.ErrMany
	}
	for i, number := range numbers {
		if !basics.IsWord(given[i], m.Nodes[number].Width) {
			return api.ErrRange
		}
	}
	return api.OK
}

// words of all nodes; states and inputs have been looked at.
func words(m api.Model, states, inputs []int) ([]int, api.Errno) {
	stands := func(node api.Node) int {
		word := node.N
		switch node.Kind {
		case api.KindState:
			word, states = states[0], states[1:]
		case api.KindInput:
			word, inputs = inputs[0], inputs[1:]
		}
		return word
	}
	values := make([]int, len(m.Nodes))
	for number, node := range m.Nodes {
		if !basics.IsOperation(node.Kind) {
			values[number] = stands(node)
			continue
		}
		value, e := operate(m, node, values)
		if e != api.OK {
			return nil, e
		}
		values[number] = value
	}
	return values, api.OK
}

// operate: what an operation makes of the words of nodes ahead of it.
func operate(m api.Model, node api.Node, values []int) (int, api.Errno) {
	var given, widths [3]int
	for i, on := range basics.Operands(node) {
		given[i], widths[i] = values[on], m.Nodes[on].Width
	}
	return word.Apply(node.Kind, node.Width, given[0], given[1], given[2], node.N, widths)
}
