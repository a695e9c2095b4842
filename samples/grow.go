package samples

import (
	"latchwork/api"
	"latchwork/basics"
)

// grower: a model that is still growing.
type grower struct {
	*Draw
	api.Model
}

func (g *grower) add(node api.Node) { g.Nodes = append(g.Nodes, node) }

// leaf adds an input or a state of at most so many bits, and tells of how many.
func (g *grower) leaf(kind, bits int) int {
	if bits <= 0 {
		return 0
	}
	width := 1 + g.Below(min(bits, api.MaxWidth))
	g.add(api.Node{Kind: kind, Width: width})
	return width
}

// other adds a constant or an operation, if one is left to add and what was drawn fits, and tells how many it added.
func (g *grower) other(left int) int {
	if left <= 0 {
		return 0
	}
	if g.Below(5) == 0 {
		width := 1 + g.Below(api.MaxWidth)
		g.add(api.Node{Kind: api.KindConst, Width: width, N: g.Below(1 << width)})
		return 1
	}
	if node := g.operation(api.KindNot + g.Below(api.Kinds-api.KindNot)); node.Width <= api.MaxWidth {
		g.add(node)
		return 1
	}
	return 0
}

// operation of nodes that are there; its width may be too great.
func (g *grower) operation(kind int) api.Node {
	node := api.Node{Kind: kind, A: g.Below(len(g.Nodes))}
	width := g.Nodes[node.A].Width
	node.Width = width
	switch kind {
	case api.KindNot, api.KindNeg:
	case api.KindEq, api.KindLess, api.KindSigned:
		node.Width, node.B = 1, g.ofWidth(width)
	case api.KindIf:
		node.A, node.B, node.C = g.ofWidth(1), node.A, g.ofWidth(width)
	case api.KindJoin:
		node.B = g.Below(len(g.Nodes))
		node.Width += g.Nodes[node.B].Width
	case api.KindCut:
		node.Width = 1 + g.Below(width)
		node.N = g.Below(width - node.Width + 1)
	case api.KindWide, api.KindSpread:
		node.Width += g.Below(api.MaxWidth - width + 1)
	default:
		node.B = g.ofWidth(width)
	}
	return node
}

// ofWidth: a node of a width of which there is one.
func (g *grower) ofWidth(width int) int {
	for {
		if number := g.Below(len(g.Nodes)); g.Nodes[number].Width == width {
			return number
		}
	}
}

// pairs adds what states are next, and what some begin as: not in the order of the states.
func (g *grower) pairs() {
	states := basics.OfKind(g.Nodes, api.KindState)
	for i := len(states) - 1; i >= 0; i-- {
		width := g.Nodes[states[i]].Width
		g.Nexts = append(g.Nexts, api.Pair{State: states[i], Node: g.ofWidth(width)})
		if fixed := g.fixed(width); len(fixed) > 0 && g.Below(3) > 0 {
			g.Inits = append(g.Inits, api.Pair{State: states[i], Node: fixed[g.Below(len(fixed))]})
		}
	}
}

// fixed: the nodes of a width that hang on no input and no state.
func (g *grower) fixed(width int) []int {
	var found []int
	hanging := make([]bool, len(g.Nodes))
	for number, node := range g.Nodes {
		hanging[number] = node.Kind == api.KindInput || node.Kind == api.KindState
		for _, on := range basics.Operands(node) {
			hanging[number] = hanging[number] || hanging[on]
		}
		if !hanging[number] && node.Width == width {
			found = append(found, number)
		}
	}
	return found
}
