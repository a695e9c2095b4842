// Package brief: short proofs, of clauses of few variables.
package brief

import (
	"latchwork/api"
	"latchwork/must"
)

// Few is how many variables there may be.
const Few = 14

// Proof that clauses which pass their check can't all hold, of no more clauses than there is room for; if one is found. Where there is room for 2 to the power of one less than there are variables, one is found of all that can't hold: no table costs more.
func Proof(c api.Clauses, room int) ([][]int, bool) {
	if c.Vars > Few || room < 1 {
		return nil, false
	}
	board := must.New(c)
	if board.Lost {
		return [][]int{nil}, true
	}
	clauses := leftOf(board)
	var open []*table
	for _, group := range groupsOf(clauses) {
		t := newTable(group, clauses)
		switch {
		case t.price() == never: // these can hold
		case t.price() <= room:
			return t.prove(nil, blank, blank), true
		case t.least() <= room && !newScales(t).outweigh(room):
			open = append(open, t)
		}
	}
	return newSeeker().among(open, room)
}
