// Package clauses: who makes clauses of literals, for the layers to ask in one place.
package clauses

import (
	"slices"

	"latchwork/api"
	"latchwork/graphs"
)

// PerAnd is how many clauses an And takes.
const PerAnd = 3

// Maker of clauses, one by one.
type Maker struct{ api.Clauses }

// Add a clause of some numbers.
func (m *Maker) Add(numbers ...int) { m.List = append(m.List, slices.Clone(numbers)) }

// And that stands at a node: the clauses that hold just if the node is what its two literals say.
func (m *Maker) And(node int, pair [2]int) {
	a, b := Number(pair[0]), Number(pair[1])
	m.Add(-node, a)
	m.Add(-node, b)
	m.Add(node, -a, -b)
}

// Root: the clause that a literal is so; that yes is so takes none, and nothing makes no be so.
func (m *Maker) Root(literal int) {
	switch literal {
	case graphs.Yes:
	case graphs.No:
		m.Add()
	default:
		m.Add(Number(literal))
	}
}

// Same: the clauses that a literal, which is not of node 0, is what another one is.
func (m *Maker) Same(literal, other int) {
	switch other {
	case graphs.Yes:
		m.Root(literal)
	case graphs.No:
		m.Root(graphs.Turn(literal))
	default:
		m.Add(-Number(literal), Number(other))
		m.Add(Number(literal), -Number(other))
	}
}

// New variable, behind all others.
func (m *Maker) New() int {
	m.Vars++
	return m.Vars
}

// Number that stands for a literal in a clause; there is none for those of node 0.
func Number(literal int) int {
	if graphs.IsTurned(literal) {
		return -graphs.Node(literal)
	}
	return graphs.Node(literal)
}
