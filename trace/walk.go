package trace

import (
	"latchwork/api"
	"latchwork/eval"
)

// maxInputs is how many a trace may have: one more than it has steps.
const maxInputs = api.MaxSteps + 1

// walk along a trace, and tell whether it passes; who looks is told, at each of its Inputs, the states, and what eval's Look says. (Of a trace that does not pass, too, up to where that shows.)
func walk(m api.Model, t api.Trace, look func(states []int, holds, bad bool)) api.Errno {
	if len(t.Inputs) == 0 || len(t.Inputs) > maxInputs {
		return api.ErrMany
	}
	states, e := eval.Begin(m, t.Start)
	if e != api.OK {
		return e
	}
	for i, inputs := range t.Inputs {
		if i > 0 {
			if states, e = eval.Step(m, states, t.Inputs[i-1]); e != api.OK {
				return e
			}
		}
		holds, bad, e := eval.Look(m, states, inputs)
		if e != api.OK {
			return e
		}
		look(states, holds, bad)
	}
	return api.OK
}
