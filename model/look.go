package model

import (
	"latchwork/api"
	"latchwork/basics"
)

// numbers of the nodes that are looked for, rising.
func numbers(m api.Model, wanted func(number int) bool) []int {
	var found []int
	for number := range m.Nodes {
		if wanted(number) {
			found = append(found, number)
		}
	}
	return found
}

func isNode(m api.Model, number int) bool { return number >= 0 && number < len(m.Nodes) }

// leansOn: the nodes on which one leans at once; a state on what it begins as, and is next.
func leansOn(m api.Model, number int) []int {
	node := m.Nodes[number]
	if node.Kind != api.KindState {
		return basics.Operands(node)
	}
	var on []int
	for _, pairs := range [2][]api.Pair{m.Inits, m.Nexts} {
		for _, pair := range pairs {
			if pair.State == number {
				on = append(on, pair.Node)
			}
		}
	}
	return on
}
