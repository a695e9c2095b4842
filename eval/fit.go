package eval

import (
	"latchwork/api"
	"latchwork/basics"
)

// fit: may these be the words of the nodes of a kind?
func fit(m api.Model, kind int, given []int) api.Errno {
	numbers := basics.OfKind(m.Nodes, kind)
	if len(given) != len(numbers) {
		return api.ErrMany
	}
	for i, number := range numbers {
		if !basics.IsWord(given[i], m.Nodes[number].Width) {
			return api.ErrRange
		}
	}
	return api.OK
}
