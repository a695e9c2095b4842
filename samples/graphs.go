package samples

import (
	"slices"

	"latchwork/api"
)

// Broad: a graph of 1000 Ins, with so many Ands, all of Ins.
func Broad(ands int) api.Graph {
	g := api.Graph{Ins: 1000, Ands: make([][2]int, 0, ands)}
	for a := 2; a < 2002; a++ {
		for b := a&^1 + 2; b < 2002 && len(g.Ands) < ands; b++ {
			g.Ands = append(g.Ands, [2]int{a, b})
		}
	}
	return g
}

// Values: whatever so many Ins, or variables, may be.
func Values(n int) [][]bool {
	var all [][]bool
	for bits := range 1 << n {
		values := make([]bool, n)
		for i := range values {
			values[i] = bits>>i&1 == 1
		}
		all = append(all, values)
	}
	return all
}

// RoomyCircuit: a copy of a circuit with spare room behind each list that is filled with odd things, and what tells whether they, and it, have stayed as they were.
func RoomyCircuit(c api.Circuit) (api.Circuit, func() bool) {
	ands := append(slices.Clone(c.Graph.Ands), [2]int{77, 78})
	wasAnds := slices.Clone(ands)
	roomy := c
	roomy.Graph.Ands = ands[:len(c.Graph.Ands)]
	var lists, were [][]int
	for _, list := range []*[]int{&roomy.Inits, &roomy.Nexts, &roomy.Bads, &roomy.Holds} {
		long := append(slices.Clone(*list), 77, 78)
		lists, were = append(lists, long), append(were, slices.Clone(long))
		*list = long[:len(*list)]
	}
	return roomy, func() bool {
		return slices.Equal(ands, wasAnds) && slices.EqualFunc(lists, were, slices.Equal[[]int])
	}
}

// WrongCircuits: circuits that do not pass, one for each error that a check tells, and those errors.
func WrongCircuits() ([]api.Circuit, []api.Errno) {
	good := func() api.Circuit {
		return api.Circuit{
			Graph:  api.Graph{Ins: 3, Ands: [][2]int{{2, 4}, {3, 9}}},
			Inputs: 1,
			States: 2,
			Inits:  []int{10, 1}, // that one hangs on something is told later
			Nexts:  []int{8, 11},
			Bads:   []int{10, 0},
			Holds:  []int{1, 7},
		}
	}
	var ins, many, ahead, twice, bits, form, none = good(), good(), good(), good(), good(), good(), good()
	ins.Graph.Ins = -1
	many.Graph.Ands = make([][2]int, api.MaxGates+1)
	ahead.Graph.Ands[0] = [2]int{4, 2}
	twice.Graph.Ands[1] = twice.Graph.Ands[0]
	bits.Inputs = 2
	form.Inits = form.Inits[:1]
	none.Bads[1] = 12
	return []api.Circuit{ins, many, ahead, twice, bits, form, none},
		[]api.Errno{api.ErrRange, api.ErrMany, api.ErrState, api.ErrTwice, api.ErrState, api.ErrForm, api.ErrNone}
}
