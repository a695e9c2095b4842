package samples

import "latchwork/api"

// Shuffler: a model of two states of so many bits, from 2 on, and of an input of so many, no more than these. In each round one of them is changed by what hangs on the other one and the input, so that, by one input, no two states come to one, and one can go far. It begins as a number, and is bad if it is another one; every other one may only go where a Hold lets it.
func (d *Draw) Shuffler(width, input, rounds int) api.Model {
	g := grower{Draw: d}
	g.add(api.Node{Kind: api.KindInput, Width: input})
	left, right := g.numbered(api.Node{Kind: api.KindState, Width: width}), g.numbered(api.Node{Kind: api.KindState, Width: width})
	wide := g.numbered(api.Node{Kind: api.KindWide, Width: width, A: 0})
	some := func() int {
		return g.numbered(api.Node{Kind: api.KindConst, Width: width, N: d.Below(1 << width)})
	}
	kinds := []int{api.KindAnd, api.KindOr, api.KindXor, api.KindAdd, api.KindSub, api.KindMul, api.KindShl}
	nextLeft, nextRight := left, right
	for range rounds {
		first := g.numbered(api.Node{Kind: kinds[d.Below(len(kinds))], Width: width, A: nextRight, B: some()})
		second := g.numbered(api.Node{Kind: kinds[d.Below(len(kinds))], Width: width, A: first, B: [2]int{wide, nextRight}[d.Below(2)]})
		nextLeft, nextRight = nextRight, g.numbered(api.Node{Kind: api.KindXor + d.Below(2), Width: width, A: nextLeft, B: second})
	}
	g.Inits = []api.Pair{{State: left, Node: some()}, {State: right, Node: some()}}
	g.Nexts = []api.Pair{{State: right, Node: nextRight}, {State: left, Node: nextLeft}}
	a, b := g.numbered(api.Node{Kind: api.KindEq, Width: 1, A: left, B: some()}), g.numbered(api.Node{Kind: api.KindEq, Width: 1, A: right, B: some()})
	g.Bads = []int{g.numbered(api.Node{Kind: api.KindAnd, Width: 1, A: a, B: b})}
	if d.Below(2) == 0 {
		g.Holds = []int{g.numbered(api.Node{Kind: api.KindLess, Width: 1, A: some(), B: nextRight})}
	}
	return g.Model
}

// numbered: adds a node, and tells its number.
func (g *grower) numbered(node api.Node) int {
	g.add(node)
	return len(g.Nodes) - 1
}
