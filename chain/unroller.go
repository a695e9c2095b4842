// Package chain: who makes the clauses of a circuit's steps, one behind the other, and who settles them, for the layers to ask in one place.
package chain

import (
	"latchwork/api"
	"latchwork/blast"
	"latchwork/clauses"
	"latchwork/cnf"
	"latchwork/graphs"
)

// Unroller of a circuit's steps, from step 0 to the last one.
type Unroller struct {
	clauses.Maker
	Circuit api.Circuit
	Last    int
}

// New unroller of so many steps, if the circuit passes its check, and there may be so many.
func New(c api.Circuit, steps int) (*Unroller, api.Errno) {
	if e := blast.Check(c); e != api.OK {
		return nil, e
	}
	if steps < 0 || steps > api.MaxSteps {
		return nil, api.ErrRange
	}
	return &Unroller{Circuit: c, Last: steps}, api.OK
}

// Part of the clauses: how many variables and clauses are new in it, and who makes them.
type Part struct {
	Vars, Clauses int
	Make          func()
}

// Made of some parts, one behind the other; none is made, if they may not be, all together.
func (u *Unroller) Made(parts ...Part) (api.Clauses, api.Errno) {
	vars, count := 0, 0
	for _, part := range parts {
		vars += part.Vars
		count += part.Clauses
	}
	if vars > api.MaxVars {
		return api.Clauses{}, api.ErrRange
	}
	if count > api.MaxClauses {
		return api.Clauses{}, api.ErrMany
	}
	for _, part := range parts {
		part.Make()
	}
	// How long each of them is shows only now.
	if e := cnf.Check(u.Clauses); e != api.OK {
		return api.Clauses{}, e
	}
	return u.Clauses, api.OK
}

// At a step: the literal of what one of the circuit's literals is there.
func (u *Unroller) At(step, literal int) int {
	if graphs.Node(literal) == 0 {
		return literal
	}
	return literal + graphs.Literal(step*Stride(u.Circuit))
}

// State: the literal of a state's bit at a step.
func (u *Unroller) State(step, bit int) int {
	return u.At(step, graphs.Literal(1+u.Circuit.Inputs+bit))
}

// Stride: how many variables a step of a circuit takes: one for each node but node 0.
func Stride(c api.Circuit) int { return graphs.Nodes(c.Graph) - 1 }
