// Package course: what comes of a model that has passed its check, by words that fit it, for the layers to ask in one place. Nothing is looked at once more here, as who goes through all states asks very often.
package course

import (
	"slices"

	"latchwork/api"
	"latchwork/basics"
	"latchwork/word"
)

// Words of all nodes, by those of states and inputs.
func Words(m api.Model, states, inputs []int) []int {
	stands := func(node api.Node) int {
		word := node.N
		switch node.Kind {
		case api.KindState:
			word, states = states[0], states[1:]
		case api.KindInput:
			word, inputs = inputs[0], inputs[1:]
		}
		return word
	}
	words := make([]int, len(m.Nodes))
	for number, node := range m.Nodes {
		if basics.IsOperation(node.Kind) {
			words[number] = operate(m, node, words)
		} else {
			words[number] = stands(node)
		}
	}
	return words
}

// operate: what an operation makes of the words of nodes ahead of it.
func operate(m api.Model, node api.Node, words []int) int {
	var given, widths [3]int
	for i, on := range basics.Operands(node) {
		given[i], widths[i] = words[on], m.Nodes[on].Width
	}
	// The model's check has seen to it that nothing is refused.
	made, _ := word.Apply(node.Kind, node.Width, given[0], given[1], given[2], node.N, widths)
	return made
}

// Follow: the word of each state's pair, in order of the states; of a state without one, its own.
func Follow(m api.Model, pairs []api.Pair, words []int) []int {
	var found []int
	for _, state := range basics.OfKind(m.Nodes, api.KindState) {
		from := state
		for _, pair := range pairs {
			if pair.State == state {
				from = pair.Node
			}
		}
		found = append(found, words[from])
	}
	return found
}

// Look: do all Holds hold, and is a Bad 1?
func Look(m api.Model, words []int) (holds, bad bool) {
	fails := func(hold int) bool { return words[hold] == 0 }
	happens := func(bad int) bool { return words[bad] == 1 }
	return !slices.ContainsFunc(m.Holds, fails), slices.ContainsFunc(m.Bads, happens)
}
