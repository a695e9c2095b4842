package blast_test

import (
	"reflect"
	"slices"
	"testing"

	"latchwork/api"
	"latchwork/basics"
	"latchwork/blast"
	"latchwork/eval"
	"latchwork/gates"
	"latchwork/model"
	"latchwork/samples"
)

// blasted: the circuit of a model, which passes its check.
func blasted(t *testing.T, m api.Model) api.Circuit {
	t.Helper()
	c, e := blast.Blast(m)
	if e != api.OK {
		t.Fatalf("%v: %d", m, e)
	}
	if e := blast.Check(c); e != api.OK {
		t.Fatalf("%v: its circuit is told %d", m, e)
	}
	return c
}

// isNothing: does a circuit tell nothing?
func isNothing(c api.Circuit) bool {
	return c.Graph.Ins == 0 && c.Inputs == 0 && c.States == 0 &&
		len(c.Graph.Ands)+len(c.Inits)+len(c.Nexts)+len(c.Bads)+len(c.Holds) == 0
}

// bitsOf words of the nodes of a kind.
func bitsOf(m api.Model, kind int, words []int) []bool {
	var bits []bool
	for i, number := range basics.OfKind(m.Nodes, kind) {
		for k := range m.Nodes[number].Width {
			bits = append(bits, words[i]>>k&1 == 1)
		}
	}
	return bits
}

// G1: the document's example.
func TestTurn(t *testing.T) {
	c := blasted(t, samples.Turn())
	want := api.Circuit{Graph: api.Graph{Ins: 1}, States: 1, Inits: []int{0}, Nexts: []int{3}, Bads: []int{2}}
	if c.Graph.Ins != 1 || c.Inputs != 0 || c.States != 1 || len(c.Holds) > 0 ||
		!slices.Equal(c.Inits, want.Inits) || !slices.Equal(c.Nexts, want.Nexts) || !slices.Equal(c.Bads, want.Bads) {
		t.Errorf("%v, want %v", c, want)
	}
}

// G1: models without states, without inputs, and without anything.
func TestLittleModels(t *testing.T) {
	if c := blasted(t, api.Model{}); !isNothing(c) {
		t.Errorf("of nothing: %v", c)
	}
	input := blasted(t, api.Model{Nodes: []api.Node{{Kind: api.KindInput, Width: 1}}, Bads: []int{0}, Holds: []int{0, 0}})
	if input.Inputs != 1 || input.States != 0 || !slices.Equal(input.Bads, []int{2}) || !slices.Equal(input.Holds, []int{2, 2}) {
		t.Errorf("of an input: %v", input)
	}
	fixed := blasted(t, api.Model{
		Nodes: []api.Node{{Kind: api.KindConst, Width: 1, N: 1}, {Kind: api.KindConst, Width: 1}},
		Bads:  []int{0, 1, 0},
		Holds: []int{1},
	})
	if fixed.Graph.Ins != 0 || !slices.Equal(fixed.Bads, []int{1, 0, 1}) || !slices.Equal(fixed.Holds, []int{0}) {
		t.Errorf("of constants: %v", fixed)
	}
}

// G1: inputs first, by their order among the nodes, the lowest bit of each first; Nexts and Inits by the order of the states, not of the pairs.
func TestInsInOrder(t *testing.T) {
	m := api.Model{
		Nodes: []api.Node{
			{Kind: api.KindState, Width: 2},                 // 0: Ins 4, 5
			{Kind: api.KindInput, Width: 1},                 // 1: In 1
			{Kind: api.KindState, Width: 3},                 // 2: Ins 6, 7, 8
			{Kind: api.KindInput, Width: 2},                 // 3: Ins 2, 3
			{Kind: api.KindState, Width: 1},                 // 4: In 9
			{Kind: api.KindConst, Width: 3, N: 6},           // 5
			{Kind: api.KindConst, Width: 1, N: 1},           // 6
			{Kind: api.KindJoin, Width: 3, A: 4, B: 3},      // 7: Ins 2, 3, 9
			{Kind: api.KindCut, Width: 1, A: 2, N: 1},       // 8: In 7
			{Kind: api.KindCut, Width: 1, A: 3, N: 1},       // 9: In 3
			{Kind: api.KindSpread, Width: 2, A: 1},          // 10: In 1 twice
			{Kind: api.KindWide, Width: 2, A: 1},            // 11: In 1, and 0
			{Kind: api.KindIf, Width: 2, A: 6, B: 11, C: 3}, // 12: as node 11
		},
		Inits: []api.Pair{{State: 4, Node: 6}, {State: 2, Node: 5}},
		Nexts: []api.Pair{{State: 4, Node: 9}, {State: 2, Node: 7}, {State: 0, Node: 12}},
		Bads:  []int{8, 1, 8},
		Holds: []int{9, 4},
	}
	c := blasted(t, m)
	if c.Graph.Ins != 9 || c.Inputs != 3 || c.States != 6 {
		t.Errorf("%d Ins, of %d and %d", c.Graph.Ins, c.Inputs, c.States)
	}
	for _, x := range []struct {
		name      string
		got, want []int
	}{
		{"Inits", c.Inits, []int{-1, -1, 0, 1, 1, 1}},
		{"Nexts", c.Nexts, []int{2, 0, 4, 6, 18, 6}},
		{"Bads", c.Bads, []int{14, 2, 14}},
		{"Holds", c.Holds, []int{6, 18}},
	} {
		if !slices.Equal(x.got, x.want) {
			t.Errorf("%s: %v, want %v", x.name, x.got, x.want)
		}
	}
	m.Nexts[2].Node = 10
	if c := blasted(t, m); !slices.Equal(c.Nexts[:2], []int{2, 2}) {
		t.Errorf("spread: %v", c.Nexts)
	}
}

// agree: does the circuit of a model tell what the model does, by these words?
func agree(t *testing.T, m api.Model, c api.Circuit, states, inputs []int) {
	t.Helper()
	ins := append(bitsOf(m, api.KindInput, inputs), bitsOf(m, api.KindState, states)...)
	next, _ := eval.Step(m, states, inputs)
	values, e := eval.Values(m, states, inputs)
	if e != api.OK {
		t.Fatalf("%v, %v: %d", states, inputs, e)
	}
	want := bitsOf(m, api.KindState, next)
	for _, mark := range slices.Concat(m.Bads, m.Holds) {
		want = append(want, values[mark] == 1)
	}
	got, e := gates.Eval(c.Graph, ins, slices.Concat(c.Nexts, c.Bads, c.Holds))
	if e != api.OK || !slices.Equal(got, want) || len(c.Nexts) != c.States || len(c.Bads) != len(m.Bads) {
		t.Fatalf("%v at %v, %v: %v %d, want %v", m, states, inputs, got, e, want)
	}
}

// begins: does the circuit of a model begin as the model does, whatever is wished?
func begins(t *testing.T, m api.Model, c api.Circuit, wish []int) {
	t.Helper()
	words, e := eval.Begin(m, wish)
	if e != api.OK || len(c.Inits) != c.States {
		t.Fatalf("%v: %d, of %v", m, e, c)
	}
	want := bitsOf(m, api.KindState, words)
	i := 0
	for _, state := range basics.OfKind(m.Nodes, api.KindState) {
		given := slices.ContainsFunc(m.Inits, func(pair api.Pair) bool { return pair.State == state })
		for range m.Nodes[state].Width {
			literal := -1
			if given {
				literal = 0
				if want[i] {
					literal = 1
				}
			}
			if c.Inits[i] != literal {
				t.Fatalf("%v: Inits %v, bit %d, want %d", m, c.Inits, i, literal)
			}
			i++
		}
	}
}

// G1: models by hand and drawn ones, by drawn words.
func TestGatesTellWhatTheModelDoes(t *testing.T) {
	d := new(samples.Draw)
	models := []api.Model{samples.Turn(), samples.Lever(), samples.Kinds()}
	for range 400 {
		models = append(models, d.Model(d.Below(api.MaxInputBits+1), d.Below(api.MaxStateBits+1), d.Below(60)))
	}
	for _, m := range models {
		c := blasted(t, m)
		if c.Inputs != basics.Bits(m.Nodes, api.KindInput) || c.States != basics.Bits(m.Nodes, api.KindState) {
			t.Fatalf("%v: %d and %d bits", m, c.Inputs, c.States)
		}
		for range 30 {
			states := d.Words(m, api.KindState)
			agree(t, m, c, states, d.Words(m, api.KindInput))
			begins(t, m, c, states)
		}
	}
}

// largest: a model with as many nodes as there may be, nearly all of the kind that takes the most Ands, no two of the same words, and all leant on.
func largest() api.Model {
	m := api.Model{
		Nodes: []api.Node{
			{Kind: api.KindState, Width: 8},
			{Kind: api.KindInput, Width: 6},
			{Kind: api.KindState, Width: 2},
			{Kind: api.KindJoin, Width: 8, A: 2, B: 1},
		},
		Nexts: []api.Pair{{State: 0, Node: api.MaxNodes - 1}, {State: 2, Node: 2}},
	}
	for number := len(m.Nodes); number < api.MaxNodes; number++ {
		m.Nodes = append(m.Nodes, api.Node{Kind: api.KindDiv + number%2, Width: 8, A: number - 1, B: 3 * (number % 2)})
	}
	return m
}

// G1: no model takes more than MaxGates Ands.
func TestRoomForAnds(t *testing.T) {
	c := blasted(t, largest())
	if n := len(c.Graph.Ands); n < 10000 || n > 50000 {
		t.Errorf("%d Ands", n)
	}
}

// What nothing leans on takes no And.
func TestAndsForWhatIsLeantOn(t *testing.T) {
	m := largest()
	m.Nexts[0].Node = 0
	if c := blasted(t, m); len(c.Graph.Ands) > 0 || !slices.Equal(c.Nexts[:8], []int{14, 16, 18, 20, 22, 24, 26, 28}) {
		t.Errorf("%d Ands, Nexts %v", len(c.Graph.Ands), c.Nexts)
	}
}

// G1, P1: what the check says, and nothing with it.
func TestWrongModels(t *testing.T) {
	faulty, errors := samples.Faulty()
	for i, m := range faulty {
		if c, e := blast.Blast(m); e != errors[i] || !isNothing(c) {
			t.Errorf("fault %d: %v %d, want %d", i, c, e, errors[i])
		}
	}
	d := new(samples.Draw)
	told := map[bool]int{}
	for range 3000 {
		m := d.Model(d.Below(4), d.Below(5), 3+d.Below(10))
		node := &m.Nodes[d.Below(len(m.Nodes))]
		field := []*int{&node.Kind, &node.Width, &node.A, &node.B, &node.C, &node.N}[d.Below(6)]
		*field = []int{-1, 0, 1, 2, 3, 8, 9, 19, 20, 24, 99, -1 << 63, 1<<63 - 1}[d.Below(13)]
		want := model.Check(m)
		c, e := blast.Blast(m)
		if e != want || e != api.OK && !isNothing(c) || e == api.OK && blast.Check(c) != api.OK {
			t.Fatalf("%v: %v %d, want %d", m, c, e, want)
		}
		told[e == api.OK]++
	}
	if told[true] < 200 || told[false] < 1000 {
		t.Errorf("told: %v", told)
	}
}

// lists of a circuit, with the room behind them.
func lists(c api.Circuit) [][]int {
	var all [][]int
	for _, list := range [][]int{c.Inits, c.Nexts, c.Bads, c.Holds} {
		all = append(all, list[:cap(list)])
	}
	return all
}

// P2, P3: models stay as they were, spare room too; circuits are new memory, each list its own; the same each time.
func TestBlastAndMemory(t *testing.T) {
	twins := samples.Lever()
	twins.Bads, twins.Holds = []int{2, 2}, []int{2, 2}
	twins.Nexts = []api.Pair{{State: 1, Node: 1}, {State: 2, Node: 2}, {State: 10, Node: 10}}
	single := samples.Turn()
	single.Nexts[0].Node, single.Holds = 1, []int{1} // one bit is all that Nexts, Bads and Holds have
	for _, given := range []api.Model{samples.Turn(), samples.Lever(), samples.Kinds(), twins, single} {
		m, stayed := samples.Roomy(given)
		c, again := blasted(t, m), blasted(t, m)
		if !stayed() || !reflect.DeepEqual(c, again) {
			t.Errorf("%v: changed, or %v, and then %v", given, c, again)
		}
		for i := range 4 {
			changed := blasted(t, m)
			for k := range lists(changed)[i] {
				lists(changed)[i][k] = 99
			}
			clear(changed.Graph.Ands[:cap(changed.Graph.Ands)])
			for other := range 4 {
				if other != i && !slices.Equal(lists(changed)[other], lists(c)[other]) {
					t.Errorf("lists %d and %d share memory", i, other)
				}
			}
		}
		if !stayed() || !reflect.DeepEqual(c, again) || !reflect.DeepEqual(c, blasted(t, m)) {
			t.Errorf("%v: a change of an answer is seen", given)
		}
		clear(m.Bads)
		clear(m.Holds)
		if !reflect.DeepEqual(c, again) {
			t.Errorf("%v: a change of the model is seen", given)
		}
	}
}
