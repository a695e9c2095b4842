package text

import (
	"latchwork/api"
	"latchwork/lines"
)

// reader: the model of the lines read so far, and the sort of the last one.
type reader struct {
	api.Model
	last sort
}

// line reads one more, and tells whether it may stand there.
func (r *reader) line(words []string) bool {
	if sortOf(words[0]) < r.last {
		return false
	}
	r.last = sortOf(words[0])
	switch r.last {
	case initLine:
		return readPair(&r.Inits, words[1:])
	case nextLine:
		return readPair(&r.Nexts, words[1:])
	case badLine:
		return readMark(&r.Bads, words[1:])
	case holdLine:
		return readMark(&r.Holds, words[1:])
	}
	return r.node(words)
}

func (r *reader) node(words []string) bool {
	if len(words) < 2 {
		return false
	}
	number, good := lines.Number(words[0])
	node := api.Node{Kind: kindOf(words[1])}
	if !good || number != len(r.Nodes) || node.Kind == 0 {
		return false
	}
	var places []*int
	each(&node, func(number *int) { places = append(places, number) })
	if !readNumbers(words[2:], places...) {
		return false
	}
	r.Nodes = append(r.Nodes, node)
	return true
}

func readPair(pairs *[]api.Pair, words []string) bool {
	var pair api.Pair
	if !readNumbers(words, &pair.State, &pair.Node) {
		return false
	}
	*pairs = append(*pairs, pair)
	return true
}

func readMark(marks *[]int, words []string) bool {
	var mark int
	if !readNumbers(words, &mark) {
		return false
	}
	*marks = append(*marks, mark)
	return true
}

// readNumbers puts the words' numbers in their places, and tells whether the words are just these.
func readNumbers(words []string, places ...*int) bool {
	numbers, good := lines.Numbers(words)
	if !good || len(numbers) != len(places) {
		return false
	}
	for i, number := range numbers {
		*places[i] = number
	}
	return true
}
