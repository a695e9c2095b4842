package samples

import (
	"slices"

	"latchwork/api"
)

// Turn: a state of one bit that begins as 0, turns round at each step, and is bad when it is 1.
func Turn() api.Model {
	return api.Model{
		Nodes: []api.Node{
			{Kind: api.KindConst, Width: 1},
			{Kind: api.KindState, Width: 1},
			{Kind: api.KindNot, Width: 1, A: 1},
		},
		Inits: []api.Pair{{State: 1, Node: 0}},
		Nexts: []api.Pair{{State: 1, Node: 2}},
		Bads:  []int{1},
	}
}

// Lever: three states, of which the second begins as it likes, and two inputs; Inits and Nexts not in the order of the states.
func Lever() api.Model {
	return api.Model{
		Nodes: []api.Node{
			{Kind: api.KindInput, Width: 2},                // 0
			{Kind: api.KindState, Width: 2},                // 1: begins as 1, is next node 9
			{Kind: api.KindState, Width: 1},                // 2: begins as it likes, is next node 5
			{Kind: api.KindAdd, Width: 2, A: 1, B: 0},      // 3
			{Kind: api.KindLess, Width: 1, A: 0, B: 1},     // 4
			{Kind: api.KindXor, Width: 1, A: 2, B: 4},      // 5
			{Kind: api.KindConst, Width: 2, N: 3},          // 6
			{Kind: api.KindNeg, Width: 2, A: 6},            // 7: 1
			{Kind: api.KindInput, Width: 1},                // 8
			{Kind: api.KindIf, Width: 2, A: 8, B: 3, C: 1}, // 9
			{Kind: api.KindState, Width: 3},                // 10: begins as 6, is next node 11
			{Kind: api.KindJoin, Width: 3, A: 1, B: 2},     // 11
			{Kind: api.KindCut, Width: 1, A: 10, N: 2},     // 12
			{Kind: api.KindEq, Width: 1, A: 9, B: 6},       // 13
			{Kind: api.KindSigned, Width: 1, A: 1, B: 0},   // 14
			{Kind: api.KindNot, Width: 1, A: 14},           // 15
			{Kind: api.KindConst, Width: 1, N: 0},          // 16
			{Kind: api.KindJoin, Width: 3, A: 6, B: 16},    // 17: 6
			{Kind: api.KindSpread, Width: 8, A: 10},        // 18
			{Kind: api.KindWide, Width: 8, A: 10},          // 19
			{Kind: api.KindEq, Width: 1, A: 18, B: 19},     // 20
		},
		Inits: []api.Pair{{State: 10, Node: 17}, {State: 1, Node: 7}},
		Nexts: []api.Pair{{State: 2, Node: 5}, {State: 10, Node: 11}, {State: 1, Node: 9}},
		Bads:  []int{13, 20},
		Holds: []int{15, 12},
	}
}

// Counter of so many bits that begins as 0, goes up by an input of so many, and is bad when it is a number.
func Counter(width, input, bad int) api.Model {
	return api.Model{
		Nodes: []api.Node{
			{Kind: api.KindInput, Width: input},           // 0
			{Kind: api.KindWide, Width: width, A: 0},      // 1
			{Kind: api.KindState, Width: width},           // 2
			{Kind: api.KindAdd, Width: width, A: 2, B: 1}, // 3
			{Kind: api.KindConst, Width: width, N: bad},   // 4
			{Kind: api.KindEq, Width: 1, A: 2, B: 4},      // 5
			{Kind: api.KindConst, Width: width},           // 6
		},
		Inits: []api.Pair{{State: 2, Node: 6}},
		Nexts: []api.Pair{{State: 2, Node: 3}},
		Bads:  []int{5},
	}
}

// Sums: two states of so many bits that begin as 0, of which one goes up by as much as the other one goes down. It is bad when they are not 0 together any more, which never comes.
func Sums(width int) api.Model {
	return api.Model{
		Nodes: []api.Node{
			{Kind: api.KindInput, Width: width},           // 0
			{Kind: api.KindState, Width: width},           // 1
			{Kind: api.KindState, Width: width},           // 2
			{Kind: api.KindAdd, Width: width, A: 1, B: 0}, // 3
			{Kind: api.KindSub, Width: width, A: 2, B: 0}, // 4
			{Kind: api.KindAdd, Width: width, A: 1, B: 2}, // 5
			{Kind: api.KindConst, Width: width},           // 6
			{Kind: api.KindEq, Width: 1, A: 5, B: 6},      // 7
			{Kind: api.KindNot, Width: 1, A: 7},           // 8
		},
		Inits: []api.Pair{{State: 1, Node: 6}, {State: 2, Node: 6}},
		Nexts: []api.Pair{{State: 1, Node: 3}, {State: 2, Node: 4}},
		Bads:  []int{8},
	}
}

// Kinds: a model with a node of each kind, in their order.
func Kinds() api.Model {
	m := api.Model{Nodes: []api.Node{
		{Kind: api.KindConst, Width: 4, N: 10},
		{Kind: api.KindInput, Width: 4},
		{Kind: api.KindState, Width: 4},
		{Kind: api.KindNot, Width: 4, A: 2},
		{Kind: api.KindNeg, Width: 4, A: 1},
	}}
	for kind := api.KindAnd; kind <= api.KindShr; kind++ {
		m.Nodes = append(m.Nodes, api.Node{Kind: kind, Width: 4, A: kind - 3, B: 2})
	}
	for kind := api.KindEq; kind <= api.KindSigned; kind++ {
		m.Nodes = append(m.Nodes, api.Node{Kind: kind, Width: 1, A: 1, B: kind - 8})
	}
	m.Nodes = append(m.Nodes,
		api.Node{Kind: api.KindIf, Width: 4, A: 17, B: 14, C: 3},
		api.Node{Kind: api.KindJoin, Width: 8, A: 18, B: 2},
		api.Node{Kind: api.KindCut, Width: 3, A: 19, N: 5},
		api.Node{Kind: api.KindWide, Width: 4, A: 20},
		api.Node{Kind: api.KindSpread, Width: 8, A: 20},
	)
	m.Inits = []api.Pair{{State: 2, Node: 0}}
	m.Nexts = []api.Pair{{State: 2, Node: 21}}
	m.Bads, m.Holds = []int{15, 16}, []int{17}
	return m
}

// Copy of a model: nothing of it is the other's memory.
func Copy(m api.Model) api.Model {
	m.Nodes, m.Inits, m.Nexts = slices.Clone(m.Nodes), slices.Clone(m.Inits), slices.Clone(m.Nexts)
	m.Bads, m.Holds = slices.Clone(m.Bads), slices.Clone(m.Holds)
	return m
}

// Same: are two models the same, empty lists nil or not?
func Same(a, b api.Model) bool {
	return slices.Equal(a.Nodes, b.Nodes) && slices.Equal(a.Inits, b.Inits) && slices.Equal(a.Nexts, b.Nexts) &&
		slices.Equal(a.Bads, b.Bads) && slices.Equal(a.Holds, b.Holds)
}

// Roomy: a copy of a model with spare room behind each list that is filled with odd things, and what tells whether they, and it, have stayed as they were.
func Roomy(m api.Model) (api.Model, func() bool) {
	long := Copy(m)
	long.Nodes = append(long.Nodes, api.Node{N: 77}, api.Node{N: 78})
	long.Inits = append(long.Inits, api.Pair{State: 77}, api.Pair{State: 78})
	long.Nexts = append(long.Nexts, api.Pair{State: 77}, api.Pair{State: 78})
	long.Bads = append(long.Bads, 77, 78)
	long.Holds = append(long.Holds, 77, 78)
	was := Copy(long)
	roomy := api.Model{
		Nodes: long.Nodes[:len(m.Nodes)],
		Inits: long.Inits[:len(m.Inits)],
		Nexts: long.Nexts[:len(m.Nexts)],
		Bads:  long.Bads[:len(m.Bads)],
		Holds: long.Holds[:len(m.Holds)],
	}
	return roomy, func() bool { return Same(long, was) }
}

// Faulty: models that do not pass, one for each error that a check tells, and those errors.
func Faulty() ([]api.Model, []api.Errno) {
	var many, kind, wide, form, ahead, none, twice = Lever(), Lever(), Lever(), Lever(), Lever(), Lever(), Lever()
	many.Bads = make([]int, api.MaxMarks+1)
	kind.Nodes[3].Kind = api.Kinds
	wide.Nodes[3].Width = api.MaxWidth + 1
	form.Nodes[3].N = 1
	ahead.Nodes[3].A = 3
	none.Nexts = none.Nexts[1:]
	twice.Inits[0] = twice.Inits[1]
	return []api.Model{many, kind, wide, form, ahead, none, twice},
		[]api.Errno{api.ErrMany, api.ErrKind, api.ErrRange, api.ErrForm, api.ErrState, api.ErrNone, api.ErrTwice}
}
