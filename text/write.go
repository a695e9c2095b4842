package text

import (
	"strconv"

	"latchwork/api"
	"latchwork/lines"
)

// writer of a model that has been checked.
type writer struct{ lines.Writer }

func (w *writer) node(number int, node api.Node) {
	words := []string{strconv.Itoa(number), kindWords[node.Kind]}
	each(&node, func(number *int) { words = append(words, strconv.Itoa(*number)) })
	w.Line(words...)
}

func (w *writer) pairs(of sort, pairs []api.Pair) {
	for _, pair := range pairs {
		w.Numbers(sortWords[of], pair.State, pair.Node)
	}
}

func (w *writer) marks(of sort, marks []int) {
	for _, mark := range marks {
		w.Numbers(sortWords[of], mark)
	}
}
