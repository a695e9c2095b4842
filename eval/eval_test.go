package eval_test

import (
	"math"
	"reflect"
	"slices"
	"testing"

	"latchwork/api"
	"latchwork/eval"
	"latchwork/samples"
)

// D1: the document's example, and what it is at each state.
func TestTurn(t *testing.T) {
	m := samples.Turn()
	for _, wish := range []int{0, 1} {
		if l, e := eval.Begin(m, []int{wish}); e != api.OK || !slices.Equal(l, []int{0}) {
			t.Errorf("begins, %d wished, as %v %d", wish, l, e)
		}
	}
	for state, values := range [][]int{{0, 0, 1}, {0, 1, 0}} {
		s := []int{state}
		if l, e := eval.Values(m, s, nil); e != api.OK || !slices.Equal(l, values) {
			t.Errorf("values at %d: %v %d", state, l, e)
		}
		if l, e := eval.Step(m, s, nil); e != api.OK || !slices.Equal(l, []int{1 - state}) {
			t.Errorf("next of %d: %v %d", state, l, e)
		}
		if holds, bad, e := eval.Look(m, s, nil); e != api.OK || !holds || bad != (state == 1) {
			t.Errorf("look at %d: %v %v %d", state, holds, bad, e)
		}
	}
}

// D1: a model whose Inits and Nexts are not in the order of its states.
func TestLeverByHand(t *testing.T) {
	m := samples.Lever()
	for _, x := range []struct {
		states, inputs, values, next []int
		holds, bad                   bool
	}{
		{[]int{1, 0, 6}, []int{0, 0}, []int{0, 1, 0, 1, 1, 1, 3, 1, 0, 1, 6, 2, 1, 0, 0, 1, 0, 6, 254, 6, 0}, []int{1, 1, 2}, true, false},
		{[]int{1, 1, 6}, []int{2, 1}, []int{2, 1, 1, 3, 0, 1, 3, 1, 1, 3, 6, 3, 1, 1, 0, 1, 0, 6, 254, 6, 0}, []int{3, 1, 3}, true, true},
		{[]int{3, 1, 3}, []int{1, 0}, []int{1, 3, 1, 0, 1, 0, 3, 1, 0, 3, 3, 7, 0, 1, 1, 0, 0, 6, 3, 3, 1}, []int{3, 0, 7}, false, true},
		{[]int{2, 0, 3}, []int{2, 0}, []int{2, 2, 0, 0, 0, 0, 3, 1, 0, 2, 3, 4, 0, 0, 0, 1, 0, 6, 3, 3, 1}, []int{2, 0, 4}, false, true},
		{[]int{2, 0, 4}, []int{0, 0}, []int{0, 2, 0, 2, 1, 1, 3, 1, 0, 2, 4, 4, 1, 0, 1, 0, 0, 6, 252, 4, 0}, []int{2, 1, 4}, false, false},
	} {
		if l, e := eval.Values(m, x.states, x.inputs); e != api.OK || !slices.Equal(l, x.values) {
			t.Errorf("values at %v, %v: %v %d, want %v", x.states, x.inputs, l, e, x.values)
		}
		if l, e := eval.Step(m, x.states, x.inputs); e != api.OK || !slices.Equal(l, x.next) {
			t.Errorf("next of %v, %v: %v %d, want %v", x.states, x.inputs, l, e, x.next)
		}
		if holds, bad, e := eval.Look(m, x.states, x.inputs); e != api.OK || holds != x.holds || bad != x.bad {
			t.Errorf("look at %v, %v: %v %v %d", x.states, x.inputs, holds, bad, e)
		}
	}
}

// D1, D2: wishes matter just of states without an Init; but each is a word.
func TestBeginByWishes(t *testing.T) {
	m := samples.Lever()
	for _, x := range []struct {
		wish, want []int
		e          api.Errno
	}{
		{[]int{0, 0, 0}, []int{1, 0, 6}, api.OK},
		{[]int{3, 1, 7}, []int{1, 1, 6}, api.OK},
		{[]int{1, 1, 6}, []int{1, 1, 6}, api.OK},
		{[]int{4, 1, 6}, nil, api.ErrRange},
		{[]int{1, 1, 8}, nil, api.ErrRange},
		{[]int{1, 2, 6}, nil, api.ErrRange},
		{[]int{-1, 1, 6}, nil, api.ErrRange},
		{[]int{1, 1, math.MinInt}, nil, api.ErrRange},
		{[]int{1, math.MaxInt, 6}, nil, api.ErrRange},
		{[]int{1, 1}, nil, api.ErrMany},
		{[]int{1, 1, 6, 0}, nil, api.ErrMany},
		{[]int{9, 9}, nil, api.ErrMany},
		{nil, nil, api.ErrMany},
		{[]int{}, nil, api.ErrMany},
	} {
		if l, e := eval.Begin(m, x.wish); e != x.e || !slices.Equal(l, x.want) {
			t.Errorf("%v wished: %v %d, want %v %d", x.wish, l, e, x.want, x.e)
		}
	}
	free := samples.Lever()
	free.Inits = nil
	if l, e := eval.Begin(free, []int{2, 1, 5}); e != api.OK || !slices.Equal(l, []int{2, 1, 5}) {
		t.Errorf("without Inits: %v %d", l, e)
	}
}

// D1: Holds that are there all hold; one Bad is enough.
func TestLookAtSeveral(t *testing.T) {
	nodes := []api.Node{{Kind: api.KindInput, Width: 1}, {Kind: api.KindInput, Width: 1}, {Kind: api.KindInput, Width: 1}}
	for _, x := range []struct {
		holds, bads, inputs []int
		hold, bad           bool
	}{
		{nil, nil, []int{0, 0, 0}, true, false},
		{nil, nil, []int{1, 1, 1}, true, false},
		{[]int{0, 1}, nil, []int{1, 1, 0}, true, false},
		{[]int{0, 1}, nil, []int{0, 1, 1}, false, false},
		{[]int{0, 1}, nil, []int{1, 0, 1}, false, false},
		{[]int{0, 0}, []int{1, 2}, []int{1, 0, 0}, true, false},
		{[]int{0, 0}, []int{1, 2}, []int{1, 1, 0}, true, true},
		{[]int{0, 0}, []int{1, 2}, []int{1, 0, 1}, true, true},
		{[]int{0, 0}, []int{1, 2}, []int{0, 0, 1}, false, true},
	} {
		m := api.Model{Nodes: nodes, Holds: x.holds, Bads: x.bads}
		if hold, bad, e := eval.Look(m, nil, x.inputs); e != api.OK || hold != x.hold || bad != x.bad {
			t.Errorf("%+v: %v %v %d", x, hold, bad, e)
		}
	}
}

// told: what all calls answer.
type told struct {
	values, next, begun []int
	holds, bad          bool
	errors              [4]api.Errno
}

func tell(m api.Model, states, inputs []int) told {
	var x told
	x.values, x.errors[0] = eval.Values(m, states, inputs)
	x.next, x.errors[1] = eval.Step(m, states, inputs)
	x.holds, x.bad, x.errors[2] = eval.Look(m, states, inputs)
	x.begun, x.errors[3] = eval.Begin(m, states)
	return x
}

// refused: all but Begin tell this error, and nothing with it.
func (x told) refused(e api.Errno) bool {
	return len(x.values)+len(x.next) == 0 && !x.holds && !x.bad && x.errors[0] == e && x.errors[1] == e && x.errors[2] == e
}

// D2, P1: numbers of words, and words that are none; states ahead of inputs.
func TestWrongWords(t *testing.T) {
	m := samples.Lever()
	good := []int{3, 1, 7}
	for _, x := range []struct {
		states, inputs []int
		want           api.Errno
	}{
		{nil, []int{3, 1}, api.ErrMany},
		{[]int{3, 1}, []int{3, 1}, api.ErrMany},
		{[]int{3, 1, 7, 0}, []int{3, 1}, api.ErrMany},
		{[]int{4, 1}, []int{3, 1}, api.ErrMany},
		{[]int{4, 1}, []int{4, 1}, api.ErrMany},
		{good, nil, api.ErrMany},
		{good, []int{3}, api.ErrMany},
		{good, []int{4}, api.ErrMany},
		{good, []int{3, 1, 0}, api.ErrMany},
		{[]int{4, 1, 7}, []int{3, 1}, api.ErrRange},
		{[]int{3, 2, 7}, []int{3, 1}, api.ErrRange},
		{[]int{3, 1, 8}, []int{3, 1}, api.ErrRange},
		{[]int{-1, 1, 7}, []int{3, 1}, api.ErrRange},
		{[]int{math.MinInt, 1, 7}, []int{3, 1}, api.ErrRange},
		{[]int{3, math.MaxInt, 7}, []int{3, 1}, api.ErrRange},
		{[]int{4, 1, 7}, []int{3}, api.ErrRange},
		{good, []int{4, 1}, api.ErrRange},
		{good, []int{3, 2}, api.ErrRange},
		{good, []int{3, -1}, api.ErrRange},
		{good, []int{math.MaxInt, 1}, api.ErrRange},
	} {
		if got := tell(m, x.states, x.inputs); !got.refused(x.want) {
			t.Errorf("%v, %v: %v, want %d", x.states, x.inputs, got, x.want)
		}
	}
	if got := tell(m, good, []int{3, 1}); got.errors != [4]api.Errno{} {
		t.Errorf("the greatest words: %v", got)
	}
}

// D2, P1: what the check says comes first, and nothing with it.
func TestCheckComesFirst(t *testing.T) {
	faulty, errors := samples.Faulty()
	for i, m := range faulty {
		for _, states := range [][]int{{1, 1, 6}, {9, 9, 9}, nil} {
			for _, inputs := range [][]int{{0, 0}, {9, 9}, nil} {
				got := tell(m, states, inputs)
				if !got.refused(errors[i]) || got.errors[3] != errors[i] || len(got.begun) > 0 {
					t.Errorf("fault %d, %v, %v: %v, want %d", i, states, inputs, got, errors[i])
				}
			}
		}
	}
}

// signed: a word's number, its upmost bit counted as its opposite.
func signed(v, width int) int {
	if v >= 1<<(width-1) {
		return v - 1<<width
	}
	return v
}

func one(holds bool) int {
	if holds {
		return 1
	}
	return 0
}

// valueOf a node is A3's, said once more, from the node back to what it leans on.
func valueOf(m api.Model, number int, leaf map[int]int) int {
	node := m.Nodes[number]
	at := func(number int) (int, int) { return valueOf(m, number, leaf), m.Nodes[number].Width }
	var a, b, wa, wb int
	switch node.Kind {
	case api.KindConst:
		return node.N
	case api.KindInput, api.KindState:
		return leaf[number]
	}
	a, wa = at(node.A)
	switch node.Kind {
	case api.KindNot:
		return 1<<wa - 1 - a
	case api.KindNeg:
		return (1<<wa - a) % (1 << wa)
	case api.KindCut:
		return a >> node.N % (1 << node.Width)
	case api.KindWide:
		return a
	case api.KindSpread:
		return (signed(a, wa) + 1<<node.Width) % (1 << node.Width)
	}
	b, wb = at(node.B)
	switch node.Kind {
	case api.KindIf:
		if a == 1 {
			return b
		}
		c, _ := at(node.C)
		return c
	case api.KindJoin:
		return a*(1<<wb) + b
	case api.KindEq:
		return one(a == b)
	case api.KindLess:
		return one(a < b)
	case api.KindSigned:
		return one(signed(a, wa) < signed(b, wb))
	}
	return bothOf(node.Kind, a, b, wa)
}

// bothOf: two words of one width make a third one.
func bothOf(kind, a, b, width int) int {
	over := 1 << width
	switch kind {
	case api.KindAnd:
		return a & b
	case api.KindOr:
		return a | b
	case api.KindXor:
		return a ^ b
	case api.KindAdd:
		return (a + b) % over
	case api.KindSub:
		return (a - b + over) % over
	case api.KindMul:
		return a * b % over
	case api.KindShl:
		return a << b % over
	case api.KindShr:
		return a >> b
	case api.KindRem:
		if b == 0 {
			return a
		}
		return a % b
	}
	if b == 0 {
		return over - 1
	}
	return a / b
}

// wanted: what all calls must answer, from the words of D1.
func wanted(m api.Model, states, inputs []int) told {
	leaf := map[int]int{}
	x := told{holds: true}
	for number, node := range m.Nodes {
		switch node.Kind {
		case api.KindState:
			leaf[number], states = states[0], states[1:]
		case api.KindInput:
			leaf[number], inputs = inputs[0], inputs[1:]
		}
	}
	for number, node := range m.Nodes {
		x.values = append(x.values, valueOf(m, number, leaf))
		if node.Kind != api.KindState {
			continue
		}
		of := func(pair api.Pair) bool { return pair.State == number }
		x.next = append(x.next, valueOf(m, m.Nexts[slices.IndexFunc(m.Nexts, of)].Node, leaf))
		begun := leaf[number]
		if i := slices.IndexFunc(m.Inits, of); i >= 0 {
			begun = valueOf(m, m.Inits[i].Node, nil)
		}
		x.begun = append(x.begun, begun)
	}
	for _, hold := range m.Holds {
		x.holds = x.holds && x.values[hold] == 1
	}
	for _, bad := range m.Bads {
		x.bad = x.bad || x.values[bad] == 1
	}
	return x
}

// D1: models of all kinds, drawn, against what the words of the document make of them.
func TestDrawnModels(t *testing.T) {
	d := new(samples.Draw)
	for range 1000 {
		m := d.Model(d.Below(api.MaxInputBits+1), d.Below(api.MaxStateBits+1), d.Below(14))
		for range 5 {
			states, inputs := d.Words(m, api.KindState), d.Words(m, api.KindInput)
			if got, want := tell(m, states, inputs), wanted(m, states, inputs); !reflect.DeepEqual(got, want) {
				t.Fatalf("%v, %v, %v:\n%v, want\n%v", m, states, inputs, got, want)
			}
		}
	}
}

// D1: all words of the model that has all kinds.
func TestAllKinds(t *testing.T) {
	m := samples.Kinds()
	for state := range 16 {
		for input := range 16 {
			states, inputs := []int{state}, []int{input}
			if got, want := tell(m, states, inputs), wanted(m, states, inputs); !reflect.DeepEqual(got, want) {
				t.Fatalf("%d, %d:\n%v, want\n%v", state, input, got, want)
			}
		}
	}
}

// D1, P2: a model without nodes; empty lists, nil or not.
func TestEmptyModel(t *testing.T) {
	for _, list := range [][]int{nil, {}} {
		for _, m := range []api.Model{{}, {Nodes: []api.Node{}, Inits: []api.Pair{}, Nexts: []api.Pair{}, Bads: []int{}, Holds: []int{}}} {
			x := tell(m, list, list)
			if x.errors != [4]api.Errno{} || len(x.values)+len(x.next)+len(x.begun) > 0 || !x.holds || x.bad {
				t.Errorf("%v", x)
			}
		}
	}
	if x := tell(api.Model{}, []int{0}, nil); !x.refused(api.ErrMany) || x.errors[3] != api.ErrMany {
		t.Errorf("a word too many: %v", x)
	}
}

// P2, P3: what is handed in stays, spare room too; answers are new memory, and the same each time.
func TestEvalAndMemory(t *testing.T) {
	for _, sample := range []api.Model{samples.Turn(), samples.Lever(), samples.Kinds()} {
		d := new(samples.Draw)
		m, stayed := samples.Roomy(sample)
		states, inputs := d.Words(m, api.KindState), d.Words(m, api.KindInput)
		long, wide := append(slices.Clone(states), 77, 78), append(slices.Clone(inputs), 77, 78)
		longWas, wideWas := slices.Clone(long), slices.Clone(wide)
		first := tell(m, long[:len(states)], wide[:len(inputs)])
		want := wanted(sample, states, inputs)
		for _, list := range [][]int{first.values, first.next, first.begun} {
			for i := range list {
				list[i] = -9
			}
		}
		if !stayed() || !slices.Equal(long, longWas) || !slices.Equal(wide, wideWas) {
			t.Errorf("changed: %v %v %v", m, long, wide)
		}
		second := tell(m, long[:len(states)], wide[:len(inputs)])
		clear(long)
		clear(wide)
		clear(m.Nodes)
		if !reflect.DeepEqual(second, want) {
			t.Errorf("%v, %v: %v, want %v", states, inputs, second, want)
		}
	}
	free := api.Model{Nodes: []api.Node{{Kind: api.KindState, Width: 8}}, Nexts: []api.Pair{{State: 0, Node: 0}}}
	wish := []int{200}
	begun, _ := eval.Begin(free, wish)
	if wish[0] = 3; begun[0] != 200 {
		t.Errorf("a change of the wish is seen: %v", begun)
	}
}
