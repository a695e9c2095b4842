// Package graphs: what api says of a graph's literals, and who makes a graph, for the layers to ask in one place.
package graphs

import (
	"slices"

	"latchwork/api"
)

// The literals of node 0.
const (
	No  = 0
	Yes = 1
)

// Free stands among literals for a bit that may be as it likes.
const Free = -1

// Literal of a node, not turned round.
func Literal(node int) int { return 2 * node }

// Node that a literal tells of.
func Node(literal int) int { return literal / 2 }

// IsTurned: is a literal turned round?
func IsTurned(literal int) bool { return literal%2 == 1 }

// Turn a literal round.
func Turn(literal int) int { return literal ^ 1 }

// Nodes: how many a graph has.
func Nodes(g api.Graph) int { return 1 + g.Ins + len(g.Ands) }

// Has: are these all literals of a graph?
func Has(g api.Graph, literals ...int) bool {
	end := Literal(Nodes(g))
	return !slices.ContainsFunc(literals, func(literal int) bool { return literal < 0 || literal >= end })
}

// Besides: how many of some literals are others than this one.
func Besides(literals []int, literal int) int {
	count := 0
	for _, other := range literals {
		if other != literal {
			count++
		}
	}
	return count
}
