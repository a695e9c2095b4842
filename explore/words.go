package explore

import (
	"iter"

	"latchwork/api"
	"latchwork/basics"
)

// allWords that the nodes of a kind may have, those of all of them at once; of no nodes just the one list without words.
func allWords(m api.Model, kind int) iter.Seq[[]int] {
	nodes := basics.OfKind(m.Nodes, kind)
	return func(yield func([]int) bool) {
		for number := range 1 << basics.Bits(m.Nodes, kind) {
			words, rest := make([]int, len(nodes)), number
			for i, node := range nodes {
				width := m.Nodes[node].Width
				words[i] = rest & (1<<width - 1)
				rest >>= width
			}
			if !yield(words) {
				return
			}
		}
	}
}
