// Package model: models: see doc/02-model.md.
package model

import (
	"slices"

	"latchwork/api"
	"latchwork/basics"
)

// Check a model.
func Check(m api.Model) api.Errno {
	if len(m.Nodes) > api.MaxNodes || len(m.Bads) > api.MaxMarks || len(m.Holds) > api.MaxMarks {
		return api.ErrMany
	}
	for number := range m.Nodes {
		if e := checkNode(m.Nodes, number); e != api.OK {
			return e
		}
	}
	if basics.Bits(m.Nodes, api.KindInput) > api.MaxInputBits || basics.Bits(m.Nodes, api.KindState) > api.MaxStateBits {
		return api.ErrMany
	}
	if e := checkPairs(m); e != api.OK {
		return e
	}
	return checkMarks(m)
}

// Inputs of a model.
func Inputs(m api.Model) ([]int, api.Errno) {
	if e := Check(m); e != api.OK {
		return nil, e
	}
	return basics.OfKind(m.Nodes, api.KindInput), api.OK
}

// States of a model.
func States(m api.Model) ([]int, api.Errno) {
	if e := Check(m); e != api.OK {
		return nil, e
	}
	return basics.OfKind(m.Nodes, api.KindState), api.OK
}

// Cone of some nodes.
func Cone(m api.Model, roots []int) ([]int, api.Errno) {
	if e := Check(m); e != api.OK {
		return nil, e
	}
	if slices.ContainsFunc(roots, func(root int) bool { return !isNode(m, root) }) {
		return nil, api.ErrNone
	}
	met := make([]bool, len(m.Nodes))
	work := slices.Clone(roots)
	for len(work) > 0 {
		number := work[len(work)-1]
		work = work[:len(work)-1]
		if !met[number] {
			met[number] = true
			work = append(work, leansOn(m, number)...)
		}
	}
	return numbers(m, func(number int) bool { return met[number] }), api.OK
}
