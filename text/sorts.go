package text

import (
	"latchwork/api"
	"latchwork/basics"
)

// sort of a line: none stands behind a later one.
type sort int

const (
	nodeLine sort = iota
	initLine
	nextLine
	badLine
	holdLine
)

// sortWords: the words that lines of a sort begin with (a node's with its number).
var sortWords = [...]string{initLine: "init", nextLine: "next", badLine: "bad", holdLine: "hold"}

// kindWords: from KindConst on.
var kindWords = [api.Kinds]string{
	"", "const", "input", "state", "not", "neg", "and", "or", "xor", "add", "sub", "mul",
	"div", "rem", "shl", "shr", "eq", "less", "signed", "if", "join", "cut", "wide", "spread",
}

// sortOf: the sort of a line that begins with a word.
func sortOf(word string) sort {
	for of := initLine; of <= holdLine; of++ {
		if sortWords[of] == word {
			return of
		}
	}
	return nodeLine
}

// kindOf: the kind that has a word, or 0.
func kindOf(word string) int {
	for kind := api.KindConst; kind < api.Kinds; kind++ {
		if kindWords[kind] == word {
			return kind
		}
	}
	return 0
}

// each tells, in order, of the numbers that stand behind the kind's word in a node's line; one order for who writes and who reads.
func each(node *api.Node, tell func(number *int)) {
	tell(&node.Width)
	for i, on := range [3]*int{&node.A, &node.B, &node.C} {
		if i < basics.Words(node.Kind) {
			tell(on)
		}
	}
	if basics.HasN(node.Kind) {
		tell(&node.N)
	}
}
