package model

import (
	"slices"

	"latchwork/api"
	"latchwork/basics"
	"latchwork/word"
)

// checkNode checks one node, when all ahead of it have passed.
func checkNode(nodes []api.Node, number int) api.Errno {
	node := nodes[number]
	if !basics.IsKind(node.Kind) {
		return api.ErrKind
	}
	if !basics.IsWidth(node.Width) {
		return api.ErrRange
	}
	if basics.IsOperation(node.Kind) {
		return checkOperation(nodes, number)
	}
	return checkLeaf(node)
}

// checkLeaf checks a constant, an input or a state.
func checkLeaf(node api.Node) api.Errno {
	if node.Kind == api.KindConst {
		if !basics.IsWord(node.N, node.Width) {
			return api.ErrRange
		}
	} else if node.N != 0 {
		return api.ErrForm
	}
	if node.A != 0 || node.B != 0 || node.C != 0 {
		return api.ErrForm
	}
	return api.OK
}

func checkOperation(nodes []api.Node, number int) api.Errno {
	node := nodes[number]
	named := basics.Words(node.Kind)
	var widths [3]int
	for i, on := range [3]int{node.A, node.B, node.C} {
		switch {
		case i >= named && on != 0:
			return api.ErrState
		case i < named && (on < 0 || on >= number):
			return api.ErrState
		case i < named:
			widths[i] = nodes[on].Width
		}
	}
	return word.Fit(node.Kind, node.Width, node.N, widths)
}

// checkPairs checks Inits and Nexts, when the nodes have passed.
func checkPairs(m api.Model) api.Errno {
	hanging := hangs(m.Nodes)
	for _, pair := range m.Inits {
		if e := checkPair(m, pair); e != api.OK {
			return e
		}
		if hanging[pair.Node] {
			return api.ErrState
		}
	}
	for _, pair := range m.Nexts {
		if e := checkPair(m, pair); e != api.OK {
			return e
		}
	}
	if twice(m.Inits) || twice(m.Nexts) {
		return api.ErrTwice
	}
	return api.OK
}

func checkPair(m api.Model, pair api.Pair) api.Errno {
	if !isNode(m, pair.State) || m.Nodes[pair.State].Kind != api.KindState || !isNode(m, pair.Node) {
		return api.ErrNone
	}
	if m.Nodes[pair.State].Width != m.Nodes[pair.Node].Width {
		return api.ErrForm
	}
	return api.OK
}

// hangs tells of each node whether it is, or leans on, an input or a state; nodes lean only on those ahead.
func hangs(nodes []api.Node) []bool {
	hanging := make([]bool, len(nodes))
	for number, node := range nodes {
		hanging[number] = node.Kind == api.KindInput || node.Kind == api.KindState ||
			slices.ContainsFunc(basics.Operands(node), func(on int) bool { return hanging[on] })
	}
	return hanging
}

// twice: are two pairs of one state?
func twice(pairs []api.Pair) bool {
	count := map[int]int{}
	for _, pair := range pairs {
		count[pair.State]++
		if count[pair.State] > 1 {
			return true
		}
	}
	return false
}

// checkMarks checks that states go on, and the Bads and Holds; that something is missing is told ahead of its width.
func checkMarks(m api.Model) api.Errno {
	for _, state := range basics.OfKind(m.Nodes, api.KindState) {
		if !slices.ContainsFunc(m.Nexts, func(pair api.Pair) bool { return pair.State == state }) {
			return api.ErrNone
		}
	}
	missing := func(mark int) bool { return !isNode(m, mark) }
	if slices.ContainsFunc(m.Bads, missing) || slices.ContainsFunc(m.Holds, missing) {
		return api.ErrNone
	}
	wide := func(mark int) bool { return m.Nodes[mark].Width != 1 }
	if slices.ContainsFunc(m.Bads, wide) || slices.ContainsFunc(m.Holds, wide) {
		return api.ErrForm
	}
	return api.OK
}
