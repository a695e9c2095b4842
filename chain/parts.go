package chain

import (
	"slices"

	"latchwork/clauses"
	"latchwork/graphs"
)

// EachStep of so many, from step 0 on, adds as many clauses.
func EachStep(steps, count int, add func(step int)) Part {
	return Part{
		Clauses: steps * count,
		Make: func() {
			for step := range steps {
				add(step)
			}
		},
	}
}

// Ands of all steps.
func (u *Unroller) Ands() Part {
	g := u.Circuit.Graph
	part := EachStep(u.Last+1, clauses.PerAnd*len(g.Ands), func(step int) {
		first := step*Stride(u.Circuit) + 1 + g.Ins
		for i, pair := range g.Ands {
			u.And(first+i, [2]int{u.At(step, pair[0]), u.At(step, pair[1])})
		}
		u.Vars += Stride(u.Circuit)
	})
	part.Vars = (u.Last + 1) * Stride(u.Circuit)
	return part
}

// Bonds: the states of each step but the first one are what those of the step ahead of it are next.
func (u *Unroller) Bonds() Part {
	nexts := u.Circuit.Nexts
	// Of two clauses for each bit one is left, if what is next is always no, or always yes.
	count := graphs.Besides(nexts, graphs.No) + graphs.Besides(nexts, graphs.Yes)
	return EachStep(u.Last, count, func(step int) {
		for bit, next := range nexts {
			u.Same(u.State(step+1, bit), u.At(step, next))
		}
	})
}

// Begins: the states of step 0 are what they begin as, but for those that begin as they like. Each Init that there is must be of node 0.
func (u *Unroller) Begins() Part {
	inits := u.Circuit.Inits
	return Part{
		Clauses: graphs.Besides(inits, graphs.Free),
		Make: func() {
			for bit, init := range inits {
				if init != graphs.Free {
					u.Same(u.State(0, bit), init)
				}
			}
		},
	}
}

// Holds hold at all steps.
func (u *Unroller) Holds() Part {
	holds := u.Circuit.Holds
	return EachStep(u.Last+1, graphs.Besides(holds, graphs.Yes), func(step int) {
		for _, hold := range holds {
			u.Root(u.At(step, hold))
		}
	})
}

// Bad is what the last step is.
func (u *Unroller) Bad() Part {
	if slices.Contains(u.Circuit.Bads, graphs.Yes) {
		return Part{Make: func() {}}
	}
	return Part{
		Clauses: 1,
		Make: func() {
			var numbers []int
			for _, bad := range u.Circuit.Bads {
				if bad != graphs.No {
					numbers = append(numbers, clauses.Number(u.At(u.Last, bad)))
				}
			}
			u.Add(numbers...)
		},
	}
}
