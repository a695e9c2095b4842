// Package apart: who proves that one can't come to what is bad by steps whose states all differ, for the layers to ask in one place.
package apart

import (
	"latchwork/api"
	"latchwork/chain"
	"latchwork/clauses"
	"latchwork/graphs"
)

// prover of what can't come by steps that differ.
type prover struct{ *chain.Unroller }

// Clauses that hold just if one can come to what is bad, as L1 says, by so many steps whose states all differ.
func Clauses(c api.Circuit, steps int) (api.Clauses, api.Errno) {
	u, e := chain.New(c, steps)
	if e != api.OK {
		return api.Clauses{}, e
	}
	p := prover{u}
	return p.Made(p.Ands(), p.Bonds(), p.Holds(), p.Bad(), p.quiet(), p.different())
}

// quiet: nothing is bad but at the last step.
func (p prover) quiet() chain.Part {
	bads := p.Circuit.Bads
	return chain.EachStep(p.Last, graphs.Besides(bads, graphs.No), func(step int) {
		for _, bad := range bads {
			p.Root(graphs.Turn(p.At(step, bad)))
		}
	})
}

// different are the states of each two steps.
func (p prover) different() chain.Part {
	pairs := p.Last * (p.Last + 1) / 2
	return chain.Part{
		Vars:    pairs * p.Circuit.States,
		Clauses: pairs * (2*p.Circuit.States + 1),
		Make: func() {
			for step := range p.Last + 1 {
				for later := step + 1; later <= p.Last; later++ {
					p.differ(step, later)
				}
			}
		},
	}
}

// differ: one bit at least of the states of two steps does.
func (p prover) differ(step, later int) {
	var some []int
	for bit := range p.Circuit.States {
		a, b := clauses.Number(p.State(step, bit)), clauses.Number(p.State(later, bit))
		differs := p.New()
		p.Add(-differs, a, b)
		p.Add(-differs, -a, -b)
		some = append(some, differs)
	}
	p.Add(some...)
}
