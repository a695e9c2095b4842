package gates

import (
	"latchwork/api"
	"latchwork/graphs"
)

// maxIns is how many Ins a graph may have.
const maxIns = 1000

// checked: a maker that goes on from a graph, if it passes. (That two Ands are the same shows only in the maker's map, so who checks makes one.)
func checked(g api.Graph) (*graphs.Maker, api.Errno) {
	if g.Ins < 0 || g.Ins > maxIns {
		return nil, api.ErrRange
	}
	if len(g.Ands) > api.MaxGates {
		return nil, api.ErrMany
	}
	for i, pair := range g.Ands {
		if !stands(pair, 1+g.Ins+i) {
			return nil, api.ErrState
		}
	}
	maker, once := graphs.From(g)
	if !once {
		return nil, api.ErrTwice
	}
	return maker, api.OK
}

// stands: may an And of these two literals be this node?
func stands(pair [2]int, node int) bool {
	a, b := pair[0], pair[1]
	return a > graphs.Yes && b > a && graphs.Node(a) != graphs.Node(b) && graphs.Node(b) < node
}

// values of all nodes, by what the Ins are.
func values(g api.Graph, ins []bool) []bool {
	nodes := make([]bool, 1, graphs.Nodes(g)) // node 0 is no
	nodes = append(nodes, ins...)
	for _, pair := range g.Ands {
		nodes = append(nodes, tells(nodes, pair[0]) && tells(nodes, pair[1]))
	}
	return nodes
}

// tells: what a literal is, by what the nodes are.
func tells(nodes []bool, literal int) bool {
	return nodes[graphs.Node(literal)] != graphs.IsTurned(literal)
}
