// Package basics: what api says of kinds and words, for the layers to ask in one place.
package basics

import "latchwork/api"

// IsKind: is there such a kind of nodes?
func IsKind(kind int) bool { return kind >= api.KindConst && kind < api.Kinds }

// IsOperation: does a node of this kind make its word of other words?
func IsOperation(kind int) bool { return kind >= api.KindNot && kind < api.Kinds }

// IsWidth: may a word have so many bits?
func IsWidth(width int) bool { return width >= 1 && width <= api.MaxWidth }

// IsWord: is a number a word of so many bits, from 0 to api.MaxWidth? (Of no bits just 0 is one.)
func IsWord(number, width int) bool { return number >= 0 && number < 1<<width }

// Words: how many of A, B, C, in order, api names for a kind.
func Words(kind int) int {
	switch kind {
	case api.KindNot, api.KindNeg, api.KindCut, api.KindWide, api.KindSpread:
		return 1
	case api.KindIf:
		return 3
	}
	if IsOperation(kind) {
		return 2
	}
	return 0
}

// Operands: the numbers of nodes that api names for a node.
func Operands(node api.Node) []int {
	return []int{node.A, node.B, node.C}[:Words(node.Kind)]
}

// HasN: does api name N for a kind?
func HasN(kind int) bool { return kind == api.KindConst || kind == api.KindCut }

// OfKind: the numbers of the nodes of a kind, rising.
func OfKind(nodes []api.Node, kind int) []int {
	var found []int
	for number, node := range nodes {
		if node.Kind == kind {
			found = append(found, number)
		}
	}
	return found
}

// Bits: how many all nodes of a kind have together.
func Bits(nodes []api.Node, kind int) int {
	bits := 0
	for _, number := range OfKind(nodes, kind) {
		bits += nodes[number].Width
	}
	return bits
}
