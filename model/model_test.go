package model_test

import (
	"math"
	"reflect"
	"slices"
	"testing"

	"latchwork/api"
	"latchwork/model"
)

// toggle: a state of one bit that turns round; the document's example.
func toggle() api.Model {
	return api.Model{
		Nodes: []api.Node{
			{Kind: api.KindConst, Width: 1},
			{Kind: api.KindState, Width: 1},
			{Kind: api.KindNot, Width: 1, A: 1},
		},
		Inits: []api.Pair{{State: 1, Node: 0}},
		Nexts: []api.Pair{{State: 1, Node: 2}},
		Bads:  []int{1},
	}
}

// gauge: two states, one of which begins as it likes, two inputs, and words of several widths.
func gauge() api.Model {
	return api.Model{
		Nodes: []api.Node{
			{Kind: api.KindInput, Width: 2},                        // 0
			{Kind: api.KindState, Width: 2},                        // 1
			{Kind: api.KindState, Width: 1},                        // 2
			{Kind: api.KindAdd, Width: 2, A: 1, B: 0},              // 3
			{Kind: api.KindLess, Width: 1, A: 0, B: 1},             // 4
			{Kind: api.KindXor, Width: 1, A: 2, B: 4},              // 5
			{Kind: api.KindConst, Width: 2, N: 3},                  // 6
			{Kind: api.KindNeg, Width: 2, A: 6},                    // 7
			{Kind: api.KindInput, Width: 1},                        // 8
			{Kind: api.KindIf, Width: 2, A: 8, B: 3, C: 7},         // 9
			{Kind: api.KindJoin, Width: 3, A: 6, B: 2},             // 10
			{Kind: api.KindCut, Width: 2, A: 10, N: 1},             // 11
			{Kind: api.KindSpread, Width: 8, A: 11},                // 12
			{Kind: api.KindConst, Width: 1, N: 1},                  // 13
			{Kind: api.KindEq, Width: 1, A: 9, B: 11},              // 14
			{Kind: api.KindIf, Width: 2, A: 13, B: 6, C: 7},        // 15
			{Kind: api.KindSigned, Width: 1, A: 12, B: 12},         // 16
			{Kind: api.KindIf, Width: 2, A: 13, B: 6, C: 3},        // 17
			{Kind: api.KindCut, Width: 1, A: 12, B: 0, C: 0, N: 7}, // 18
		},
		Inits: []api.Pair{{State: 1, Node: 15}},
		Nexts: []api.Pair{{State: 2, Node: 5}, {State: 1, Node: 9}},
		Bads:  []int{14, 18},
		Holds: []int{16, 4, 4},
	}
}

func copied(m api.Model) api.Model {
	m.Nodes, m.Inits, m.Nexts = slices.Clone(m.Nodes), slices.Clone(m.Inits), slices.Clone(m.Nexts)
	m.Bads, m.Holds = slices.Clone(m.Bads), slices.Clone(m.Holds)
	return m
}

func inputs(n, width int) []api.Node {
	var l []api.Node
	for range n {
		l = append(l, api.Node{Kind: api.KindInput, Width: width})
	}
	return l
}

// keepers: states that are next what they are.
func keepers(widths ...int) api.Model {
	var m api.Model
	for i, w := range widths {
		m.Nodes = append(m.Nodes, api.Node{Kind: api.KindState, Width: w})
		m.Nexts = append(m.Nexts, api.Pair{State: i, Node: i})
	}
	return m
}

// zeros: so many constants of one bit.
func zeros(n int) []api.Node {
	return slices.Repeat([]api.Node{{Kind: api.KindConst, Width: 1}}, n)
}

// B1: models as they may be, at their limits too.
func TestCheckLetsPass(t *testing.T) {
	many := toggle()
	for len(many.Nodes) < api.MaxNodes {
		many.Nodes = append(many.Nodes, api.Node{Kind: api.KindNot, Width: 1, A: len(many.Nodes) - 1})
	}
	many.Bads, many.Holds = slices.Repeat([]int{79}, 8), slices.Repeat([]int{79}, 8)
	later := toggle()
	later.Nodes = append(later.Nodes, api.Node{Kind: api.KindConst, Width: 1, N: 1}, api.Node{Kind: api.KindNot, Width: 1, A: 3})
	later.Inits[0].Node = 4
	for i, m := range []api.Model{
		{}, toggle(), gauge(), many, later,
		{Nodes: inputs(6, 1)}, {Nodes: inputs(3, 2)}, {Nodes: inputs(1, 6)},
		keepers(8, 2), keepers(1, 1, 1, 1, 1, 1, 1, 1, 1, 1),
		{Nodes: []api.Node{{Kind: api.KindConst, Width: 8, N: 255}}},
		{Nodes: zeros(80)},
	} {
		if e := model.Check(m); e != api.OK {
			t.Errorf("model %d: %d", i, e)
		}
	}
}

type fault struct {
	name string
	want api.Errno
	make func(m *api.Model)
}

// nodeFaults: what Check says of nodes.
func nodeFaults() []fault {
	return []fault{
		{"81 nodes", api.ErrMany, func(m *api.Model) { m.Nodes = zeros(81) }},
		{"81 nodes without a kind", api.ErrMany, func(m *api.Model) { m.Nodes = make([]api.Node, 81) }},
		{"9 bads", api.ErrMany, func(m *api.Model) { m.Bads = slices.Repeat([]int{14}, 9) }},
		{"9 holds", api.ErrMany, func(m *api.Model) { m.Holds = slices.Repeat([]int{14}, 9) }},
		{"9 holds, and a node without a kind", api.ErrMany, func(m *api.Model) { m.Holds = make([]int, 9); m.Nodes[0].Kind = 0 }},
		{"kind 0", api.ErrKind, func(m *api.Model) { m.Nodes[3].Kind = 0 }},
		{"kind -1", api.ErrKind, func(m *api.Model) { m.Nodes[3].Kind = -1 }},
		{"kind 24, width 0", api.ErrKind, func(m *api.Model) { m.Nodes[3].Kind, m.Nodes[3].Width = 24, 0 }},
		{"width 0 of an input", api.ErrRange, func(m *api.Model) { m.Nodes[0].Width, m.Nodes[0].N = 0, 1 }},
		{"width 9 of a constant", api.ErrRange, func(m *api.Model) { m.Nodes[6].Width = 9 }},
		{"width 9, and A none", api.ErrRange, func(m *api.Model) { m.Nodes[3].Width, m.Nodes[3].A = 9, 99 }},
		{"width far beyond", api.ErrRange, func(m *api.Model) { m.Nodes[6].Width = math.MaxInt }},
		{"width far below", api.ErrRange, func(m *api.Model) { m.Nodes[6].Width = math.MinInt }},
		{"constant beyond", api.ErrRange, func(m *api.Model) { m.Nodes[6].N = 4 }},
		{"constant below", api.ErrRange, func(m *api.Model) { m.Nodes[6].N = -1 }},
		{"constant beyond, and with A", api.ErrRange, func(m *api.Model) { m.Nodes[6].N, m.Nodes[6].A = 4, 1 }},
		{"constant with A", api.ErrForm, func(m *api.Model) { m.Nodes[6].A = 1 }},
		{"constant with B", api.ErrForm, func(m *api.Model) { m.Nodes[6].B = 1 }},
		{"constant with C", api.ErrForm, func(m *api.Model) { m.Nodes[6].C = -1 }},
		{"input with N", api.ErrForm, func(m *api.Model) { m.Nodes[0].N = 1 }},
		{"input with A", api.ErrForm, func(m *api.Model) { m.Nodes[8].A = 1 }},
		{"state with N", api.ErrForm, func(m *api.Model) { m.Nodes[1].N = -1 }},
		{"state with B", api.ErrForm, func(m *api.Model) { m.Nodes[1].B = 1 }},
		{"state with C", api.ErrForm, func(m *api.Model) { m.Nodes[1].C = 1 }},
		{"A is the node", api.ErrState, func(m *api.Model) { m.Nodes[3].A = 3 }},
		{"B is a later one", api.ErrState, func(m *api.Model) { m.Nodes[3].B = 6 }},
		{"C below 0", api.ErrState, func(m *api.Model) { m.Nodes[9].C = -1 }},
		{"A far beyond", api.ErrState, func(m *api.Model) { m.Nodes[3].A = math.MaxInt }},
		{"C is not named", api.ErrState, func(m *api.Model) { m.Nodes[3].C = 1 }},
		{"B is not named", api.ErrState, func(m *api.Model) { m.Nodes[7].B = 1 }},
		{"C of a cut", api.ErrState, func(m *api.Model) { m.Nodes[11].C = 1 }},
		{"not named, and widths", api.ErrState, func(m *api.Model) { m.Nodes[3].Width, m.Nodes[3].C = 3, 1 }},
		{"widths", api.ErrForm, func(m *api.Model) { m.Nodes[3].B = 2 }},
		{"widths of an if", api.ErrForm, func(m *api.Model) { m.Nodes[9].A = 3 }},
		{"N of a sum", api.ErrForm, func(m *api.Model) { m.Nodes[3].N = 1 }},
		{"N of a cut beyond", api.ErrForm, func(m *api.Model) { m.Nodes[11].N = 2 }},
		{"N of a cut far beyond", api.ErrForm, func(m *api.Model) { m.Nodes[11].N = math.MaxInt }},
		{"N of a cut below", api.ErrForm, func(m *api.Model) { m.Nodes[11].N = -1 }},
		{"the node ahead first", api.ErrForm, func(m *api.Model) { m.Nodes[0].N = 1; m.Nodes[3].Kind = 0 }},
		{"the node ahead first, too", api.ErrKind, func(m *api.Model) { m.Nodes[0].Kind = 0; m.Nodes[3].N = 1 }},
		{"inputs of 7 bits", api.ErrMany, func(m *api.Model) { m.Nodes = append(m.Nodes, inputs(4, 1)...) }},
		{"states of 11 bits", api.ErrMany, func(m *api.Model) { *m = keepers(8, 2, 1) }},
		{"states of 11 bits, without Nexts", api.ErrMany, func(m *api.Model) { *m = keepers(8, 3); m.Nexts = nil }},
		{"inputs of 7 bits, and a later fault", api.ErrForm, func(m *api.Model) { m.Nodes = append(inputs(7, 1), api.Node{Kind: api.KindInput, Width: 1, N: 1}) }},
		{"inputs of 7 bits, and pairs of nothing", api.ErrMany, func(m *api.Model) { m.Nodes = inputs(7, 1) }},
	}
}

// pairFaults: what Check says of what states begin as, and are next.
func pairFaults() []fault {
	return []fault{
		{"init of an input", api.ErrNone, func(m *api.Model) { m.Inits[0].State = 0 }},
		{"init of nothing", api.ErrNone, func(m *api.Model) { m.Inits[0].State = 19 }},
		{"init of what is below", api.ErrNone, func(m *api.Model) { m.Inits[0].State = -1 }},
		{"init by nothing", api.ErrNone, func(m *api.Model) { m.Inits[0].Node = 19 }},
		{"init by what is below", api.ErrNone, func(m *api.Model) { m.Inits[0].Node = -1 }},
		{"init of another width", api.ErrForm, func(m *api.Model) { m.Inits[0].Node = 13 }},
		{"init of another width, by an input", api.ErrForm, func(m *api.Model) { m.Inits[0].Node = 8 }},
		{"init by an input", api.ErrState, func(m *api.Model) { m.Inits[0].Node = 0 }},
		{"init by itself", api.ErrState, func(m *api.Model) { m.Inits[0].Node = 1 }},
		{"init by a sum of an input", api.ErrState, func(m *api.Model) { m.Inits[0].Node = 3 }},
		{"init by what leans on a sum, by C", api.ErrState, func(m *api.Model) { m.Inits[0].Node = 17 }},
		{"init by what leans on a state, by a cut", api.ErrState, func(m *api.Model) { m.Inits[0].Node = 11 }},
		{"the init ahead first", api.ErrForm, func(m *api.Model) { m.Inits = []api.Pair{{State: 1, Node: 13}, {State: 0, Node: 0}} }},
		{"the init ahead first, too", api.ErrState, func(m *api.Model) { m.Inits = []api.Pair{{State: 1, Node: 3}, {State: 0, Node: 0}} }},
		{"two inits, the second wrong", api.ErrNone, func(m *api.Model) { m.Inits = []api.Pair{{State: 1, Node: 6}, {State: 1, Node: 99}} }},
		{"two inits", api.ErrTwice, func(m *api.Model) {
			m.Inits = []api.Pair{{State: 1, Node: 6}, {State: 2, Node: 13}, {State: 1, Node: 7}}
		}},
		{"two inits, and a next wrong", api.ErrForm, func(m *api.Model) {
			m.Inits = []api.Pair{{State: 1, Node: 6}, {State: 1, Node: 6}}
			m.Nexts[0].Node = 6
		}},
		{"an init and a next wrong", api.ErrState, func(m *api.Model) { m.Inits[0].Node = 0; m.Nexts[0].Node = 99 }},
		{"next of an input", api.ErrNone, func(m *api.Model) { m.Nexts[0].State = 0 }},
		{"next of nothing", api.ErrNone, func(m *api.Model) { m.Nexts[0].State = math.MaxInt }},
		{"next by nothing", api.ErrNone, func(m *api.Model) { m.Nexts[1].Node = math.MinInt }},
		{"next of another width", api.ErrForm, func(m *api.Model) { m.Nexts[0].Node = 6 }},
		{"two nexts", api.ErrTwice, func(m *api.Model) { m.Nexts = append(m.Nexts, m.Nexts[0]) }},
		{"two nexts, and a state without", api.ErrTwice, func(m *api.Model) { m.Nexts[1] = m.Nexts[0] }},
		{"a state without a next", api.ErrNone, func(m *api.Model) { m.Nexts = m.Nexts[:1] }},
		{"two inits, and a state without a next", api.ErrTwice, func(m *api.Model) {
			m.Inits = []api.Pair{{State: 1, Node: 6}, {State: 1, Node: 6}}
			m.Nexts = nil
		}},
	}
}

// markFaults: what Check says of Bads and Holds.
func markFaults() []fault {
	return []fault{
		{"bad that is none", api.ErrNone, func(m *api.Model) { m.Bads = []int{19} }},
		{"bad below", api.ErrNone, func(m *api.Model) { m.Bads = []int{14, -1} }},
		{"hold that is none", api.ErrNone, func(m *api.Model) { m.Holds = []int{math.MaxInt} }},
		{"hold below", api.ErrNone, func(m *api.Model) { m.Holds = []int{4, math.MinInt} }},
		{"bad of two bits", api.ErrForm, func(m *api.Model) { m.Bads = []int{14, 1} }},
		{"hold of two bits", api.ErrForm, func(m *api.Model) { m.Holds = []int{4, 0} }},
		{"bad of two bits, and one that is none", api.ErrNone, func(m *api.Model) { m.Bads = []int{1, 99} }},
		{"bad of two bits, and a hold that is none", api.ErrNone, func(m *api.Model) { m.Bads = []int{1}; m.Holds = []int{-1} }},
		{"bad of two bits, and a state without a next", api.ErrNone, func(m *api.Model) { m.Bads = []int{1}; m.Nexts = m.Nexts[:1] }},
		{"bad that is none, and two nexts", api.ErrTwice, func(m *api.Model) { m.Bads = []int{99}; m.Nexts[1] = m.Nexts[0] }},
	}
}

// B1, P1: each error, and which one comes first; all calls tell it, and nothing else with it.
func TestCheckRefuses(t *testing.T) {
	for _, f := range slices.Concat(nodeFaults(), pairFaults(), markFaults()) {
		m := copied(gauge())
		f.make(&m)
		if got := model.Check(m); got != f.want {
			t.Errorf("%s: Check %d, want %d", f.name, got, f.want)
		}
		if l, e := model.Inputs(m); e != f.want || l != nil {
			t.Errorf("%s: Inputs %v %d", f.name, l, e)
		}
		if l, e := model.States(m); e != f.want || l != nil {
			t.Errorf("%s: States %v %d", f.name, l, e)
		}
		for _, roots := range [][]int{nil, {0}, {-1}} {
			if l, e := model.Cone(m, roots); e != f.want || l != nil {
				t.Errorf("%s: Cone of %v: %v %d", f.name, roots, l, e)
			}
		}
	}
}

// B1: lists without a limit of their own may be long.
func TestCheckOfLongLists(t *testing.T) {
	m := toggle()
	m.Nexts = slices.Repeat(m.Nexts, 100000)
	if e := model.Check(m); e != api.ErrTwice {
		t.Errorf("many Nexts: %d", e)
	}
	if l, e := model.Cone(toggle(), slices.Repeat([]int{2, 0}, 100000)); e != api.OK || !slices.Equal(l, []int{0, 1, 2}) {
		t.Errorf("many roots: %v %d", l, e)
	}
}

// B2: inputs and states.
func TestInputsAndStates(t *testing.T) {
	for i, x := range []struct {
		m              api.Model
		inputs, states []int
	}{
		{toggle(), nil, []int{1}},
		{gauge(), []int{0, 8}, []int{1, 2}},
		{api.Model{}, nil, nil},
		{api.Model{Nodes: inputs(6, 1)}, []int{0, 1, 2, 3, 4, 5}, nil},
		{keepers(1, 2, 3), nil, []int{0, 1, 2}},
	} {
		if l, e := model.Inputs(x.m); e != api.OK || !slices.Equal(l, x.inputs) {
			t.Errorf("model %d: inputs %v %d", i, l, e)
		}
		if l, e := model.States(x.m); e != api.OK || !slices.Equal(l, x.states) {
			t.Errorf("model %d: states %v %d", i, l, e)
		}
	}
}

// B2: cones.
func TestCone(t *testing.T) {
	for _, x := range []struct {
		m           api.Model
		roots, want []int
	}{
		{toggle(), nil, nil},
		{toggle(), []int{}, nil},
		{toggle(), []int{0}, []int{0}},
		{toggle(), []int{1}, []int{0, 1, 2}},
		{toggle(), []int{2}, []int{0, 1, 2}},
		{api.Model{}, nil, nil},
		{keepers(1, 2, 3), []int{2, 0}, []int{0, 2}},
		{gauge(), []int{0}, []int{0}},
		{gauge(), []int{8, 6, 8, 0}, []int{0, 6, 8}},
		{gauge(), []int{7}, []int{6, 7}},
		{gauge(), []int{15}, []int{6, 7, 13, 15}},
		{gauge(), []int{1}, []int{0, 1, 3, 6, 7, 8, 9, 13, 15}},
		{gauge(), []int{2}, []int{0, 1, 2, 3, 4, 5, 6, 7, 8, 9, 13, 15}},
		{gauge(), []int{11}, []int{0, 1, 2, 3, 4, 5, 6, 7, 8, 9, 10, 11, 13, 15}},
		{gauge(), []int{17, 18}, []int{0, 1, 2, 3, 4, 5, 6, 7, 8, 9, 10, 11, 12, 13, 15, 17, 18}},
	} {
		if l, e := model.Cone(x.m, x.roots); e != api.OK || !slices.Equal(l, x.want) {
			t.Errorf("cone of %v: %v %d, want %v", x.roots, l, e, x.want)
		}
	}
	for _, roots := range [][]int{{3}, {-1}, {0, 1, 3}, {-1, 0}, {math.MaxInt}, {0, math.MinInt}} {
		if l, e := model.Cone(toggle(), roots); e != api.ErrNone || l != nil {
			t.Errorf("cone of %v: %v %d", roots, l, e)
		}
	}
	if l, e := model.Cone(api.Model{}, []int{0}); e != api.ErrNone || l != nil {
		t.Errorf("cone of 0 of no nodes: %v %d", l, e)
	}
}

// B2, B3: each cone has its roots, what they lean on and no more; and is its own cone.
func TestConesAreClosed(t *testing.T) {
	m := gauge()
	for one := range m.Nodes {
		for two := range m.Nodes {
			cone, e := model.Cone(m, []int{two, one})
			if e != api.OK || !slices.Contains(cone, one) || !slices.Contains(cone, two) || !slices.IsSorted(cone) {
				t.Fatalf("cone of %d and %d: %v %d", two, one, cone, e)
			}
			if again, e := model.Cone(m, cone); e != api.OK || !slices.Equal(again, cone) {
				t.Errorf("the cone of %v: %v %d", cone, again, e)
			}
			first, _ := model.Cone(m, []int{one})
			second, _ := model.Cone(m, []int{two})
			both := slices.Concat(first, second)
			slices.Sort(both)
			if !slices.Equal(slices.Compact(both), cone) {
				t.Errorf("cones of %d and %d: %v and %v, of both: %v", one, two, first, second, cone)
			}
		}
	}
}

// draw: numbers that are the same each time.
type draw uint64

func (d *draw) below(n int) int {
	*d = *d*6364136223846793005 + 1442695040888963407
	return int(uint64(*d) >> 33 % uint64(n))
}

func (d *draw) wild() int {
	if d.below(12) == 0 {
		return []int{math.MinInt, -1, 99, math.MaxInt}[d.below(4)]
	}
	return d.below(9)
}

func (d *draw) pairs() []api.Pair {
	var l []api.Pair
	for range d.below(4) {
		l = append(l, api.Pair{State: d.wild(), Node: d.wild()})
	}
	return l
}

func (d *draw) model() api.Model {
	m := api.Model{Inits: d.pairs(), Nexts: d.pairs()}
	for range d.below(9) {
		node := api.Node{Kind: d.below(25), Width: 1}
		for _, p := range []*int{&node.A, &node.B, &node.C, &node.N, &node.Width} {
			if d.below(2) == 0 {
				*p = d.wild()
			}
		}
		m.Nodes = append(m.Nodes, node)
	}
	for range d.below(3) {
		m.Bads, m.Holds = append(m.Bads, d.wild()), append(m.Holds, d.wild())
	}
	return m
}

type told struct {
	check          api.Errno
	inputs, states []int
	cone           []int
	errors         [3]api.Errno
}

func tell(m api.Model, roots []int) told {
	x := told{check: model.Check(m)}
	x.inputs, x.errors[0] = model.Inputs(m)
	x.states, x.errors[1] = model.States(m)
	x.cone, x.errors[2] = model.Cone(m, roots)
	return x
}

// P1, P2, P3: whatever is handed in, nothing panics, it stays as it was, and the answer is the same once more.
func TestWildModels(t *testing.T) {
	d := new(draw)
	for range 20000 {
		m, roots := d.model(), []int{d.wild(), d.wild()}
		was, rootsWere := copied(m), slices.Clone(roots)
		x := tell(m, roots)
		if !reflect.DeepEqual(m, was) || !slices.Equal(roots, rootsWere) {
			t.Fatalf("changed: %v, now %v", was, m)
		}
		if x.errors[0] != x.check || x.errors[1] != x.check || x.check != api.OK && x.errors[2] != x.check {
			t.Fatalf("%v: %v", m, x)
		}
		if x.errors[2] != api.OK && x.cone != nil {
			t.Fatalf("%v: %v", m, x)
		}
		if y := tell(m, roots); !reflect.DeepEqual(x, y) {
			t.Fatalf("%v: %v, then %v", m, x, y)
		}
	}
}

// P2: the spare room behind lists stays as it is.
func TestSpareRoomStays(t *testing.T) {
	m := gauge()
	nodes := append(slices.Clone(m.Nodes), api.Node{N: 77}, api.Node{N: 78})
	inits := append(slices.Clone(m.Inits), api.Pair{State: 77}, api.Pair{State: 78})
	nexts := append(slices.Clone(m.Nexts), api.Pair{State: 77}, api.Pair{State: 78})
	bads := append(slices.Clone(m.Bads), 77, 78)
	holds := append(slices.Clone(m.Holds), 77, 78)
	roots := append([]int{18, 2, 18, 0}, slices.Repeat([]int{77}, 40)...)
	was := copied(api.Model{Nodes: nodes, Inits: inits, Nexts: nexts, Bads: bads, Holds: holds})
	rootsWere := slices.Clone(roots)
	tell(api.Model{Nodes: nodes[:19], Inits: inits[:1], Nexts: nexts[:2], Bads: bads[:2], Holds: holds[:3]}, roots[:4])
	if !reflect.DeepEqual(api.Model{Nodes: nodes, Inits: inits, Nexts: nexts, Bads: bads, Holds: holds}, was) {
		t.Error("what was handed in has changed")
	}
	if !slices.Equal(roots, rootsWere) {
		t.Errorf("the roots have changed: %v", roots)
	}
}

// P2, P3: an answer is the caller's: neither a change of what was handed in is seen in it, nor a change of it anywhere else.
func TestAnswersAreNewMemory(t *testing.T) {
	m, roots := gauge(), []int{0, 6, 8}
	x, y := tell(m, roots), tell(gauge(), []int{0, 6, 8})
	for _, list := range [][]int{roots, m.Bads, m.Holds} {
		for i := range list {
			list[i] = 1
		}
	}
	for i := range m.Nodes {
		m.Nodes[i] = api.Node{}
	}
	m.Nexts[0], m.Inits[0] = api.Pair{}, api.Pair{}
	if !reflect.DeepEqual(x, y) {
		t.Errorf("%v, and behind a change of what was handed in: %v", y, x)
	}
	own := []int{0, 6, 8}
	z := tell(gauge(), own)
	for _, list := range [][]int{z.inputs, z.states, z.cone} {
		for i := range list {
			list[i] = -7
		}
	}
	if !slices.Equal(own, []int{0, 6, 8}) {
		t.Errorf("a change of the answer is seen in the roots: %v", own)
	}
	if again := tell(gauge(), own); !reflect.DeepEqual(again, y) {
		t.Errorf("a change of an answer is seen in a later one: %v, want %v", again, y)
	}
}

// P2: empty lists may be nil or not.
func TestEmptyListsEitherWay(t *testing.T) {
	m := api.Model{Nodes: []api.Node{}, Inits: []api.Pair{}, Nexts: []api.Pair{}, Bads: []int{}, Holds: []int{}}
	for _, x := range []told{tell(m, []int{}), tell(api.Model{}, nil)} {
		if x.check != api.OK || x.errors != [3]api.Errno{} || len(x.inputs)+len(x.states)+len(x.cone) > 0 {
			t.Errorf("%v", x)
		}
	}
}
