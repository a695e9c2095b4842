package trace_test

import (
	"math"
	"reflect"
	"slices"
	"testing"

	"latchwork/api"
	"latchwork/eval"
	"latchwork/model"
	"latchwork/samples"
	"latchwork/trace"
)

// told: what the calls that take a model answer.
type told struct {
	check  api.Errno
	played [][]int
	play   api.Errno
	isBad  bool
	bad    api.Errno
}

func tell(m api.Model, x api.Trace) told {
	var answer told
	answer.check = trace.Check(m, x)
	answer.played, answer.play = trace.Play(m, x)
	answer.isBad, answer.bad = trace.Bad(m, x)
	return answer
}

// refused: all tell this error, and nothing with it.
func (x told) refused(e api.Errno) bool {
	return x.check == e && x.play == e && x.bad == e && len(x.played) == 0 && !x.isBad
}

// passed: all are OK, and tell this.
func (x told) passed(played [][]int, isBad bool) bool {
	return x.check == api.OK && x.play == api.OK && x.bad == api.OK && slices.EqualFunc(x.played, played, slices.Equal) && x.isBad == isBad
}

// E1, E2: the document's example, and lines by hand.
func TestTracesByHand(t *testing.T) {
	wishes := func(second int) []int { return []int{3, second, 0} } // of Lever, whose first and third states have Inits
	for _, x := range []struct {
		m      api.Model
		x      api.Trace
		played [][]int
		isBad  bool
	}{
		{samples.Turn(), api.Trace{Start: []int{0}, Inputs: [][]int{nil, nil}}, [][]int{{0}, {1}}, true}, // the document's
		{samples.Turn(), api.Trace{Start: []int{1}, Inputs: [][]int{nil}}, [][]int{{0}}, false},
		{samples.Turn(), api.Trace{Start: []int{0}, Inputs: [][]int{{}, nil, {}}}, [][]int{{0}, {1}, {0}}, false},
		{samples.Lever(), api.Trace{Start: wishes(1), Inputs: [][]int{{2, 1}}}, [][]int{{1, 1, 6}}, true},
		{samples.Lever(), api.Trace{Start: wishes(0), Inputs: [][]int{{0, 0}}}, [][]int{{1, 0, 6}}, false},
		{samples.Lever(), api.Trace{Start: wishes(1), Inputs: [][]int{{2, 1}, {1, 0}}}, [][]int{{1, 1, 6}, {3, 1, 3}}, false},
		{samples.Lever(), api.Trace{Start: wishes(0), Inputs: [][]int{{0, 0}, {3, 1}, {0, 0}}}, [][]int{{1, 0, 6}, {1, 1, 2}, {0, 1, 3}}, false},
		{api.Model{}, api.Trace{Inputs: [][]int{nil}}, [][]int{nil}, false},
		{api.Model{}, api.Trace{Start: []int{}, Inputs: [][]int{{}, {}}}, [][]int{nil, nil}, false},
	} {
		if got := tell(x.m, x.x); !got.passed(x.played, x.isBad) {
			t.Errorf("%v: %v, want %v %v", x.x, got, x.played, x.isBad)
		}
	}
}

// E2: Holds count at each of the Inputs, Bads at the last one: all that may be at three.
func TestHoldsAndBads(t *testing.T) {
	bit := api.Node{Kind: api.KindInput, Width: 1}
	m := api.Model{Nodes: []api.Node{bit, bit, bit, bit}, Holds: []int{0, 1}, Bads: []int{2, 3}}
	for bits := range 1 << 12 {
		at := func(place int) int { return bits >> place & 1 }
		var x api.Trace
		held := true
		for step := range 3 {
			inputs := []int{at(4 * step), at(4*step + 1), at(4*step + 2), at(4*step + 3)}
			held = held && inputs[0] == 1 && inputs[1] == 1
			x.Inputs = append(x.Inputs, inputs)
		}
		want := held && (at(10) == 1 || at(11) == 1)
		if got := tell(m, x); !got.passed(make([][]int, 3), want) {
			t.Fatalf("%v: %v, want %v", x, got, want)
		}
	}
}

// E1, P1: how many Inputs there may be; that comes first.
func TestHowManyInputs(t *testing.T) {
	m := samples.Turn()
	for steps := range api.MaxSteps + 1 {
		var played [][]int
		for i := range steps + 1 {
			played = append(played, []int{i % 2})
		}
		if got := tell(m, api.Trace{Start: []int{0}, Inputs: make([][]int, steps+1)}); !got.passed(played, steps%2 == 1) {
			t.Errorf("%d steps: %v", steps, got)
		}
	}
	faulty, _ := samples.Faulty()
	for _, m := range append(faulty, m) {
		for _, inputs := range [][][]int{nil, {}, make([][]int, 42), make([][]int, 1000)} {
			for _, start := range [][]int{{0}, {2}, nil} {
				if got := tell(m, api.Trace{Start: start, Inputs: inputs}); !got.refused(api.ErrMany) {
					t.Errorf("%d Inputs: %v", len(inputs), got)
				}
			}
		}
	}
}

// E1, P1: what Begin says comes next: of the model, and then of the wishes, those that do not matter too.
func TestBeginComesNext(t *testing.T) {
	faulty, errors := samples.Faulty()
	for i, m := range faulty {
		for _, start := range [][]int{{1, 1, 6}, {9, 9, 9}, nil} {
			for _, inputs := range [][][]int{{{0, 0}}, {{9, 9}}, {nil, nil}} {
				if got := tell(m, api.Trace{Start: start, Inputs: inputs}); !got.refused(errors[i]) {
					t.Errorf("fault %d, %v, %v: %v, want %d", i, start, inputs, got, errors[i])
				}
			}
		}
	}
	for _, x := range []struct {
		start []int
		want  api.Errno
	}{
		{nil, api.ErrMany},
		{[]int{1, 1}, api.ErrMany},
		{[]int{9, 9}, api.ErrMany},
		{[]int{1, 1, 6, 0}, api.ErrMany},
		{[]int{4, 1, 6}, api.ErrRange},
		{[]int{1, 2, 6}, api.ErrRange},
		{[]int{1, 1, 8}, api.ErrRange},
		{[]int{1, -1, 6}, api.ErrRange},
		{[]int{math.MinInt, 1, 6}, api.ErrRange},
		{[]int{1, 1, math.MaxInt}, api.ErrRange},
	} {
		for _, inputs := range [][][]int{{{0, 0}}, {{9, 9}}, {{0}}, {nil, nil}} {
			if got := tell(samples.Lever(), api.Trace{Start: x.start, Inputs: inputs}); !got.refused(x.want) {
				t.Errorf("%v, %v: %v, want %d", x.start, inputs, got, x.want)
			}
		}
	}
}

// E1, P1: Inputs, step by step, the last one too.
func TestWrongInputs(t *testing.T) {
	good := []int{3, 1}
	for _, x := range []struct {
		inputs [][]int
		want   api.Errno
	}{
		{[][]int{nil}, api.ErrMany},
		{[][]int{{3}}, api.ErrMany},
		{[][]int{{9}}, api.ErrMany},
		{[][]int{{3, 1, 0}}, api.ErrMany},
		{[][]int{{4, 1}}, api.ErrRange},
		{[][]int{{3, 2}}, api.ErrRange},
		{[][]int{{-1, 1}}, api.ErrRange},
		{[][]int{{math.MaxInt, math.MinInt}}, api.ErrRange},
		{[][]int{good, good, {3}}, api.ErrMany},
		{[][]int{good, good, {4, 1}}, api.ErrRange},
		{[][]int{good, {3}, good}, api.ErrMany},
		{[][]int{good, {3, -1}, good}, api.ErrRange},
		{[][]int{good, {4, 1}, nil}, api.ErrRange},
		{[][]int{{4, 1}, nil, good}, api.ErrRange},
		{[][]int{nil, {4, 1}, good}, api.ErrMany},
		{append(slices.Repeat([][]int{good}, api.MaxSteps), []int{4, 1}), api.ErrRange},
	} {
		if got := tell(samples.Lever(), api.Trace{Start: []int{1, 1, 6}, Inputs: x.inputs}); !got.refused(x.want) {
			t.Errorf("%v: %v, want %d", x.inputs, got, x.want)
		}
	}
}

// wanted is E1 and E2, said once more: first what is wrong, then the states, then what is bad.
func wanted(m api.Model, x api.Trace) told {
	var want told
	refuse := func(e api.Errno) told { return told{check: e, play: e, bad: e} }
	if n := len(x.Inputs); n < 1 || n > 41 {
		return refuse(api.ErrMany)
	}
	states, e := eval.Begin(m, x.Start)
	if e != api.OK {
		return refuse(e)
	}
	for _, inputs := range x.Inputs {
		if _, e := eval.Values(m, states, inputs); e != api.OK {
			return refuse(e)
		}
		want.played = append(want.played, states)
		states, _ = eval.Step(m, states, inputs)
	}
	last := len(x.Inputs) - 1
	_, want.isBad, _ = eval.Look(m, want.played[last], x.Inputs[last])
	for i, inputs := range x.Inputs {
		holds, _, _ := eval.Look(m, want.played[i], inputs)
		want.isBad = want.isBad && holds
	}
	return want
}

// spoil one list of a trace, so that mostly it does not pass any more.
func spoil(d *samples.Draw, x api.Trace) {
	list := &x.Inputs[d.Below(len(x.Inputs))]
	switch {
	case len(*list) == 0 || d.Below(3) == 0:
		*list = append(*list, 0)
	case d.Below(2) == 0:
		*list = (*list)[1:]
	default:
		(*list)[d.Below(len(*list))] = []int{-1, 2, 4, 256}[d.Below(4)]
	}
}

// E1, E2: drawn models and traces, some of them spoilt.
func TestDrawnTraces(t *testing.T) {
	d := new(samples.Draw)
	type end struct {
		e     api.Errno
		isBad bool
	}
	seen := map[end]int{}
	for range 3000 {
		m := d.Model(d.Below(api.MaxInputBits+1), d.Below(api.MaxStateBits+1), d.Below(14))
		if e := model.Check(m); e != api.OK {
			t.Fatalf("%v: %d", m, e)
		}
		x := d.Trace(m, d.Below(8))
		if d.Below(4) == 0 {
			spoil(d, x)
		}
		if d.Below(8) == 0 {
			spoil(d, x)
		}
		got, want := tell(m, x), wanted(m, x)
		if !reflect.DeepEqual(got, want) {
			t.Fatalf("%v, %v:\n%v, want\n%v", m, x, got, want)
		}
		seen[end{got.check, got.isBad}]++
	}
	for _, x := range []end{{}, {isBad: true}, {e: api.ErrMany}, {e: api.ErrRange}} {
		if seen[x] < 50 {
			t.Errorf("just %d of %v", seen[x], x)
		}
	}
}

// roomy: a copy of a trace with spare room behind each list that is filled with odd things, and what tells whether they, and it, have stayed as they were.
func roomy(x api.Trace) (api.Trace, func() bool) {
	widen := func(list []int) []int { return append(slices.Clone(list), 77, 78) }
	same := func(a, b []int) bool { return slices.Equal(a[:cap(a)], b[:cap(b)]) }
	start, was := slices.Clip(widen(x.Start)), slices.Clip(widen(x.Start))
	inputs, were := [][]int{}, [][]int{}
	for _, list := range append(slices.Clone(x.Inputs), []int{9}, []int{8}) {
		inputs, were = append(inputs, slices.Clip(widen(list))[:len(list)]), append(were, slices.Clip(widen(list))[:len(list)])
	}
	return api.Trace{Start: start[:len(x.Start)], Inputs: inputs[:len(x.Inputs)]}, func() bool {
		return same(start, was) && slices.EqualFunc(inputs, were, same)
	}
}

// P2, P3: what is handed in stays, spare room too; lists of an answer share nothing with it, nor with one another; the same each time.
func TestTracesAndMemory(t *testing.T) {
	free := api.Model{Nodes: []api.Node{{Kind: api.KindState, Width: 8}, {Kind: api.KindInput, Width: 2}}, Nexts: []api.Pair{{State: 0, Node: 0}}}
	for _, sample := range []api.Model{samples.Turn(), samples.Lever(), samples.Kinds(), free} {
		d := new(samples.Draw)
		m, stayed := samples.Roomy(sample)
		plain := d.Trace(m, 5)
		x, kept := roomy(plain)
		want := wanted(sample, plain)
		first, second := tell(m, x), tell(m, x)
		if s, e := trace.Print(x); e != api.OK || s == "" {
			t.Errorf("printed: %q %d", s, e)
		}
		for i, list := range first.played {
			for j := range list[:cap(list)] {
				list[:cap(list)][j] = -9
			}
			if !slices.EqualFunc(first.played[i+1:], want.played[i+1:], slices.Equal) {
				t.Errorf("a change of one list is seen in another one: %v", first.played)
			}
		}
		if !stayed() || !kept() {
			t.Errorf("changed: %v %v", m, x)
		}
		clear(x.Start)
		for _, inputs := range x.Inputs {
			clear(inputs)
		}
		clear(m.Nodes)
		if !reflect.DeepEqual(second, want) {
			t.Errorf("%v: %v, want %v", plain, second, want)
		}
	}
}
