package samples

import (
	"slices"

	"latchwork/api"
	"latchwork/basics"
	"latchwork/eval"
)

// Move of a machine, by some inputs: the state that is next, and what eval's Look says.
type Move struct {
	Next       int
	Holds, Bad bool
}

// Machine: all that a model does. A state's number has the bits of its words, the lowest first, those of the first word lowest.
type Machine struct {
	Begun []int    // the states that it may begin as, rising
	Moves [][]Move // of each state, by all inputs
}

// MachineOf a model that passes its check.
func MachineOf(m api.Model) Machine {
	var x Machine
	for state := range 1 << basics.Bits(m.Nodes, api.KindState) {
		states := Unpacked(m, api.KindState, state)
		if begun, _ := eval.Begin(m, states); slices.Equal(begun, states) {
			x.Begun = append(x.Begun, state)
		}
		var moves []Move
		for input := range 1 << basics.Bits(m.Nodes, api.KindInput) {
			inputs := Unpacked(m, api.KindInput, input)
			next, _ := eval.Step(m, states, inputs)
			holds, bad, _ := eval.Look(m, states, inputs)
			moves = append(moves, Move{packed(m, api.KindState, next), holds, bad})
		}
		x.Moves = append(x.Moves, moves)
	}
	return x
}

// Unpacked: the words of the nodes of a kind that a number has the bits of.
func Unpacked(m api.Model, kind, number int) []int {
	var words []int
	for _, node := range basics.OfKind(m.Nodes, kind) {
		width := m.Nodes[node].Width
		words = append(words, number&(1<<width-1))
		number >>= width
	}
	return words
}

func packed(m api.Model, kind int, words []int) int {
	number, at := 0, 0
	for i, node := range basics.OfKind(m.Nodes, kind) {
		number |= words[i] << at
		at += m.Nodes[node].Width
	}
	return number
}

// Fewest steps by which a trace is bad, or -1, if none is, however long.
func (x Machine) Fewest() int {
	met := make([]bool, len(x.Moves))
	for steps, here := 0, x.Begun; len(here) > 0; steps++ {
		var next []int
		for _, state := range here {
			met[state] = true
		}
		for _, state := range here {
			for _, move := range x.Moves[state] {
				if move.Holds && move.Bad {
					return steps
				}
				if move.Holds && !met[move.Next] {
					met[move.Next] = true
					next = append(next, move.Next)
				}
			}
		}
		here = next
	}
	return -1
}

// Approached: are there states, all different, one for each of so many steps and 1, such as chapter 12 speaks of?
func (x Machine) Approached(steps int) bool {
	met := make([]bool, len(x.Moves))
	for state := range x.Moves {
		if x.approaches(state, steps, met) {
			return true
		}
	}
	return false
}

// approaches, from a state on, by so many steps that come to no state that was met.
func (x Machine) approaches(state, steps int, met []bool) bool {
	met[state] = true
	defer func() { met[state] = false }()
	for _, move := range x.Moves[state] {
		switch {
		case !move.Holds || move.Bad != (steps == 0):
		case steps == 0:
			return true
		case !met[move.Next] && x.approaches(move.Next, steps-1, met):
			return true
		}
	}
	return false
}
