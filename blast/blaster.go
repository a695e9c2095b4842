package blast

import (
	"slices"

	"latchwork/api"
	"latchwork/basics"
	"latchwork/graphs"
)

// blaster makes the gates of a model's nodes, each when it is first asked for: nodes on which nothing leans take none.
type blaster struct {
	*graphs.Maker
	nodes []api.Node
	bits  map[int][]int // the literals of each node that was asked for, the lowest bit first
}

// start with the Ins: the bits of inputs, then those of states.
func start(m api.Model) *blaster {
	b := &blaster{nodes: m.Nodes, bits: map[int][]int{}}
	ins := 0
	nextIn := func(int) int {
		ins++
		return graphs.Literal(ins)
	}
	for _, kind := range [2]int{api.KindInput, api.KindState} {
		for _, number := range basics.OfKind(m.Nodes, kind) {
			b.bits[number] = made(m.Nodes[number].Width, nextIn)
		}
	}
	b.Maker, _ = graphs.From(api.Graph{Ins: ins})
	return b
}

// all bits of some nodes, in order.
func (b *blaster) all(numbers []int) []int {
	var literals []int
	for _, number := range numbers {
		literals = append(literals, b.word(number)...)
	}
	return literals
}

// word: the bits of a node. They are only read by who asks: nodes may share them.
func (b *blaster) word(number int) []int {
	if bits, known := b.bits[number]; known {
		return bits
	}
	node := b.nodes[number]
	var words [3][]int
	for i, on := range basics.Operands(node) {
		words[i] = b.word(on)
	}
	bits := b.operate(node, words[0], words[1], words[2])
	b.bits[number] = bits
	return bits
}

// operate: the bits of a node that is no input and no state, by those of the words that it is made of.
func (b *blaster) operate(node api.Node, x, y, z []int) []int {
	switch node.Kind {
	case api.KindConst:
		return constant(node.N, node.Width)
	case api.KindNot:
		return turned(x)
	case api.KindAnd:
		return made(node.Width, func(i int) int { return b.both(x[i], y[i]) })
	case api.KindOr:
		return made(node.Width, func(i int) int { return b.either(x[i], y[i]) })
	case api.KindXor:
		return made(node.Width, func(i int) int { return b.differ(x[i], y[i]) })
	case api.KindIf:
		return made(node.Width, func(i int) int { return b.choose(x[0], y[i], z[i]) })
	case api.KindJoin:
		return slices.Concat(y, x)
	case api.KindCut:
		return x[node.N : node.N+node.Width]
	case api.KindWide:
		return made(node.Width, func(i int) int { return at(x, i) })
	case api.KindSpread:
		return made(node.Width, func(i int) int { return x[min(i, len(x)-1)] })
	case api.KindEq:
		return []int{b.same(x, y)}
	case api.KindLess:
		return []int{b.less(x, y)}
	case api.KindSigned:
		return []int{b.less(upmostTurned(x), upmostTurned(y))}
	}
	return b.calculate(node.Kind, x, y)
}

// calculate: the bits of a node that is reckoned of words of its own width.
func (b *blaster) calculate(kind int, x, y []int) []int {
	var bits []int
	switch kind {
	case api.KindNeg:
		bits, _ = b.difference(constant(0, len(x)), x)
	case api.KindAdd:
		bits, _ = b.sum(x, y, graphs.No)
	case api.KindSub:
		bits, _ = b.difference(x, y)
	case api.KindMul:
		bits = b.product(x, y)
	case api.KindDiv:
		bits, _ = b.divide(x, y)
	case api.KindRem:
		_, bits = b.divide(x, y)
	case api.KindShl:
		bits = b.shift(x, y, 1)
	case api.KindShr:
		bits = b.shift(x, y, -1)
	}
	return bits
}
