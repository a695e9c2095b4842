package graphs

import (
	"slices"

	"latchwork/api"
)

// Maker of a graph, And by And.
type Maker struct {
	api.Graph
	there map[[2]int]int // the literal of each And that is there
}

// From a graph a maker goes on, with a copy of it; false, if two of its Ands are the same.
func From(g api.Graph) (*Maker, bool) {
	m := &Maker{
		Graph: api.Graph{Ins: g.Ins, Ands: slices.Clone(g.Ands)},
		there: make(map[[2]int]int, len(g.Ands)),
	}
	for i, pair := range g.Ands {
		m.there[pair] = Literal(1 + g.Ins + i)
	}
	return m, len(m.there) == len(g.Ands)
}

// And: a literal that is yes just if two literals of the graph are; false, if it would take an And too many.
func (m *Maker) And(a, b int) (int, bool) {
	a, b = min(a, b), max(a, b)
	switch {
	case a == No || a == Turn(b):
		return No, true
	case a == Yes || a == b:
		return b, true
	}
	return m.add([2]int{a, b})
}

// add an And, if it is not there.
func (m *Maker) add(pair [2]int) (int, bool) {
	if literal, known := m.there[pair]; known {
		return literal, true
	}
	if len(m.Ands) >= api.MaxGates {
		return 0, false
	}
	literal := Literal(Nodes(m.Graph))
	m.Ands = append(m.Ands, pair)
	m.there[pair] = literal
	return literal, true
}
