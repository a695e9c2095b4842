package decide_test

import (
	"math"
	"reflect"
	"testing"

	"latchwork/apart"
	"latchwork/api"
	"latchwork/blast"
	"latchwork/decide"
	"latchwork/explore"
	"latchwork/samples"
	"latchwork/trace"
	"latchwork/unroll"
)

// decided: what Decide tells, held to N1: a trace that is bad, of as many steps as are told, comes with EndUnsafe, and nothing with anything else.
func decided(t *testing.T, m api.Model, steps, fuel int) api.Decision {
	t.Helper()
	d, e := decide.Decide(m, steps, fuel)
	if e != api.OK {
		t.Fatalf("%v, %d steps: %d", m, steps, e)
	}
	switch d.End {
	case api.EndUnsafe:
		if bad, e := trace.Bad(m, d.Trace); !bad || e != api.OK || len(d.Trace.Inputs) != d.Deep+1 || d.Deep > steps {
			t.Fatalf("%v, %d steps: %v: is bad: %v %d", m, steps, d, bad, e)
		}
		return d
	case api.EndSafe:
		if d.Deep < 1 || d.Deep > steps {
			t.Fatalf("%v, %d steps: %v", m, steps, d)
		}
	case api.EndUnknown:
		if d.Deep != steps {
			t.Fatalf("%v, %d steps: %v", m, steps, d)
		}
	default:
		t.Fatalf("%v, %d steps: %v", m, steps, d)
	}
	if len(d.Trace.Start)+len(d.Trace.Inputs) > 0 {
		t.Fatalf("%v, %d steps: %v", m, steps, d)
	}
	return d
}

// wanted: the end, and by how much, as N1 says, if nothing takes too long.
func wanted(x samples.Machine, steps int) (end, deep int) {
	fewest := x.Fewest()
	if fewest >= 0 && fewest <= steps {
		return api.EndUnsafe, fewest
	}
	for by := 1; by <= steps; by++ {
		if !x.Approached(by) && (fewest < 0 || fewest >= by) {
			return api.EndSafe, by
		}
	}
	return api.EndUnknown, steps
}

// still: a state of one bit that begins as 0, and is 0 for ever.
func still() api.Model {
	m := samples.Turn()
	m.Nexts[0].Node = 0
	return m
}

// N1: by hand.
func TestDecideByHand(t *testing.T) {
	input := api.Model{Nodes: []api.Node{{Kind: api.KindInput, Width: 1}, {Kind: api.KindNot, Width: 1, A: 0}}, Bads: []int{0}}
	held := input
	held.Holds = []int{1}
	for i, x := range []struct {
		m                api.Model
		steps, end, deep int
	}{
		{samples.Turn(), 1, api.EndUnsafe, 1}, // the document's
		{samples.Turn(), 40, api.EndUnsafe, 1},
		{still(), 1, api.EndSafe, 1},
		{still(), 40, api.EndSafe, 1},
		{api.Model{}, 1, api.EndSafe, 1},
		{api.Model{}, 40, api.EndSafe, 1},
		{input, 1, api.EndUnsafe, 0},
		{held, 1, api.EndSafe, 1},
		{samples.Lever(), 7, api.EndUnsafe, 0},
		{samples.Sums(5), 40, api.EndSafe, 1},
		{samples.Counter(3, 1, 7), 6, api.EndUnknown, 6},
		{samples.Counter(3, 1, 7), 7, api.EndUnsafe, 7}, // at the edge
		{samples.Counter(8, 1, 40), 39, api.EndUnknown, 39},
		{samples.Counter(8, 1, 40), 40, api.EndUnsafe, 40},
		{samples.Counter(8, 1, 41), 40, api.EndUnknown, 40},
		{around(7), 2, api.EndUnknown, 2}, // 5 comes to 6, that to 7, and nothing to 5
		{around(7), 3, api.EndSafe, 3},
		{around(7), 40, api.EndSafe, 3},
		{around(5), 1, api.EndSafe, 1},
	} {
		if got := decided(t, x.m, x.steps, api.MaxFuel); got.End != x.end || got.Deep != x.deep {
			t.Errorf("%d: %v, want %d %d", i, got, x.end, x.deep)
		}
	}
}

// around: a state of 3 bits that begins as 0, goes up, and is 0 again behind 4 and behind 7; it is bad if it is a number.
func around(bad int) api.Model {
	return api.Model{
		Nodes: []api.Node{
			{Kind: api.KindState, Width: 3},
			{Kind: api.KindConst, Width: 3},
			{Kind: api.KindConst, Width: 3, N: 1},
			{Kind: api.KindAdd, Width: 3, A: 0, B: 2},
			{Kind: api.KindConst, Width: 3, N: 4},
			{Kind: api.KindEq, Width: 1, A: 0, B: 4},
			{Kind: api.KindIf, Width: 3, A: 5, B: 1, C: 3},
			{Kind: api.KindConst, Width: 3, N: bad},
			{Kind: api.KindEq, Width: 1, A: 0, B: 7},
		},
		Inits: []api.Pair{{State: 0, Node: 1}},
		Nexts: []api.Pair{{State: 0, Node: 6}},
		Bads:  []int{8},
	}
}

// N1: of few nodes, bits and steps, with all the fuel there is: nothing takes too long.
func TestDecideLittleModels(t *testing.T) {
	d := new(samples.Draw)
	told := map[int]int{}
	for i := range 600 {
		m := d.Model(d.Below(3), d.Below(4), d.Below(7))
		if i%2 == 0 {
			m = d.Reckoner(5 + i/2%4)
		}
		x := samples.MachineOf(m)
		for steps := 1; steps <= 2; steps++ {
			end, deep := wanted(x, steps)
			if got := decided(t, m, steps, api.MaxFuel); got.End != end || got.Deep != deep {
				t.Fatalf("%v, %d steps: %v, want %d %d", m, steps, got, end, deep)
			}
			told[end]++
		}
	}
	if min(told[api.EndSafe], told[api.EndUnsafe], told[api.EndUnknown]) < 25 {
		t.Errorf("told: %v", told)
	}
}

// N1: more bits and steps: seldom too long, and never told wrong, with little fuel neither.
func TestDecideMoreSteps(t *testing.T) {
	d := new(samples.Draw)
	told, far := map[int]int{}, map[int]int{}
	tooLong := 0
	for range 400 {
		m := d.Shuffler(2, 1, 1+d.Below(3))
		x := samples.MachineOf(m)
		steps := 1 + d.Below(api.MaxSteps)
		end, deep := wanted(x, steps)
		told[end]++
		if deep > 2 {
			far[end]++
		}
		for _, fuel := range []int{api.MaxFuel, d.Below(100), 0} {
			got := decided(t, m, steps, fuel)
			if fuel == api.MaxFuel && got.End == api.EndUnknown && end != api.EndUnknown {
				tooLong++
			}
			if got.End != api.EndUnknown && (got.End != end || got.Deep != deep) {
				t.Fatalf("%v, %d steps, fuel %d: %v, want %d %d", m, steps, fuel, got, end, deep)
			}
		}
	}
	if tooLong > 0 || min(told[api.EndSafe], told[api.EndUnsafe]) < 100 || min(far[api.EndSafe], far[api.EndUnsafe]) < 30 {
		t.Errorf("%d took too long, told: %v, far: %v", tooLong, told, far)
	}
}

// N3: what is said to be safe has no trace that is bad, however long, and what is said to be unsafe has one, and none shorter.
func TestDecisionsAreSo(t *testing.T) {
	d := new(samples.Draw)
	told := map[int]int{}
	for i := range 300 {
		m := d.Shuffler(2+i%4, 1+d.Below(2), 1+d.Below(3))
		if i%3 == 0 {
			m = d.Model(d.Below(7), d.Below(11), d.Below(40))
		}
		found, e := explore.Explore(m)
		if e != api.OK {
			t.Fatal(e)
		}
		got := decided(t, m, 1+d.Below(12), api.MaxFuel)
		if got.End == api.EndSafe && found.Bad || got.End == api.EndUnsafe && (!found.Bad || found.BadDeep != got.Deep) {
			t.Fatalf("%v: %v, but %v", m, got, found)
		}
		told[got.End]++
	}
	if min(told[api.EndSafe], told[api.EndUnsafe]) < 50 {
		t.Errorf("told: %v", told)
	}
}

// N1: where it takes too long, as here without fuel, it is not known.
func TestDecideTooLong(t *testing.T) {
	m := samples.Counter(8, 6, 255)
	m.Nodes = append(m.Nodes,
		api.Node{Kind: api.KindMul, Width: 8, A: 3, B: 2},
		api.Node{Kind: api.KindMul, Width: 8, A: 7, B: 7},
		api.Node{Kind: api.KindXor, Width: 8, A: 8, B: 3},
	)
	m.Nexts[0].Node = 9
	fewest := samples.MachineOf(m).Fewest()
	if fewest < 2 {
		t.Fatalf("bad by %d steps", fewest)
	}
	if got := decided(t, m, 40, 0); got.End != api.EndUnknown || got.Deep != 40 {
		t.Errorf("no fuel: %v", got)
	}
	if got := decided(t, m, 40, api.MaxFuel); got.End != api.EndUnsafe || got.Deep != fewest {
		t.Errorf("%v, want %d", got, fewest)
	}
}

// N1: where it takes too long to look for a trace of all these steps, fewer may do to say that it is safe.
func TestDecideByFewerSteps(t *testing.T) {
	m := samples.Sums(4)
	did := 0
	for fuel := 1; fuel <= api.MaxFuel; fuel *= 2 {
		_, _, e := unroll.Find(m, 40, fuel)
		got := decided(t, m, 40, fuel)
		if got.End == api.EndUnsafe || got.End == api.EndSafe && got.Deep != 1 || e == api.OK && got.End != api.EndSafe {
			t.Errorf("fuel %d: %v", fuel, got)
		}
		if e == api.ErrFuel && got.End == api.EndSafe {
			did++
		}
	}
	if did == 0 {
		t.Error("fewer steps never do")
	}
}

// hidden: a state of 2 bits that begins as 0, and stays so, but comes to 1, which is bad, by few inputs, that are hard to reckon. 2 comes to 1, too, and nothing to 2.
func hidden() api.Model {
	return api.Model{
		Nodes: []api.Node{
			{Kind: api.KindInput, Width: 6},
			{Kind: api.KindState, Width: 2},
			{Kind: api.KindWide, Width: 8, A: 0},
			{Kind: api.KindMul, Width: 8, A: 2, B: 2},
			{Kind: api.KindMul, Width: 8, A: 3, B: 2},
			{Kind: api.KindRem, Width: 8, A: 4, B: 3},
			{Kind: api.KindConst, Width: 8, N: 16},
			{Kind: api.KindEq, Width: 1, A: 5, B: 6},
			{Kind: api.KindWide, Width: 2, A: 7},
			{Kind: api.KindConst, Width: 2},
			{Kind: api.KindConst, Width: 2, N: 1},
			{Kind: api.KindConst, Width: 2, N: 3},
			{Kind: api.KindEq, Width: 1, A: 1, B: 9},
			{Kind: api.KindEq, Width: 1, A: 1, B: 11},
			{Kind: api.KindIf, Width: 2, A: 13, B: 11, C: 10},
			{Kind: api.KindIf, Width: 2, A: 12, B: 8, C: 14},
			{Kind: api.KindEq, Width: 1, A: 1, B: 10},
		},
		Inits: []api.Pair{{State: 1, Node: 9}},
		Nexts: []api.Pair{{State: 1, Node: 15}},
		Bads:  []int{16},
	}
}

// N1, N3: where it takes too long to look for a trace, but not to see that one can't come to what is bad by more steps, it is not said to be safe.
func TestDecideWhatIsHidden(t *testing.T) {
	m := hidden()
	c, e := blast.Blast(m)
	if fewest := samples.MachineOf(m).Fewest(); fewest != 1 || e != api.OK {
		t.Fatalf("bad by %d steps, %d", fewest, e)
	}
	showed := 0
	for fuel := 1; fuel <= api.MaxFuel; fuel += 1 + fuel/3 {
		_, _, e := unroll.Find(m, 4, fuel)
		if got := decided(t, m, 4, fuel); got.End == api.EndSafe || e == api.OK && (got.End != api.EndUnsafe || got.Deep != 1) {
			t.Errorf("fuel %d: %v", fuel, got)
		}
		if e == api.ErrFuel && apart.Approach(c, 2, fuel) == api.VerdictNo {
			showed++
		}
	}
	if showed == 0 {
		t.Error("it is never hidden")
	}
}

// wrongAsks: steps and fuel, of which one may not be.
func wrongAsks() [][2]int {
	return [][2]int{{0, 0}, {-1, 0}, {api.MaxSteps + 1, 0}, {math.MinInt, 0}, {math.MaxInt, 0}, {1, -1}, {1, api.MaxFuel + 1}, {40, math.MinInt}, {1, math.MaxInt}}
}

// N1, P1: errors, and which comes first; nothing with them.
func TestDecideRefuses(t *testing.T) {
	wrong, errors := samples.Faulty()
	for i, m := range wrong {
		for _, x := range append(wrongAsks(), [2]int{1, 0}, [2]int{41, -1}) {
			if got, e := decide.Decide(m, x[0], x[1]); !reflect.DeepEqual(got, api.Decision{}) || e != errors[i] {
				t.Errorf("model %d, %v: %v %d, want %d", i, x, got, e, errors[i])
			}
		}
	}
	for _, x := range wrongAsks() {
		for _, m := range []api.Model{{}, samples.Turn(), samples.Lever()} {
			if got, e := decide.Decide(m, x[0], x[1]); !reflect.DeepEqual(got, api.Decision{}) || e != api.ErrRange {
				t.Errorf("%v: %v %d", x, got, e)
			}
		}
	}
}

// N1, P2, P3: what is handed in is only read; an answer is new memory, and the same each time.
func TestDecideReads(t *testing.T) {
	for _, model := range []api.Model{samples.Turn(), still(), samples.Lever(), samples.Counter(5, 2, 20)} {
		m, stayed := samples.Roomy(model)
		for _, fuel := range []int{0, 10, api.MaxFuel} {
			first := decided(t, m, 8, fuel)
			second := decided(t, m, 8, fuel)
			if !reflect.DeepEqual(first, second) {
				t.Fatalf("%v, and then %v", first, second)
			}
			lists := append([][]int{first.Trace.Start}, first.Trace.Inputs...)
			others := append([][]int{second.Trace.Start}, second.Trace.Inputs...)
			for i, list := range lists {
				for k := range list {
					list[k] = 99
				}
				_ = append(list, 99)
				if !reflect.DeepEqual(lists[i+1:], others[i+1:]) {
					t.Fatalf("list %d shares memory", i)
				}
			}
			if third := decided(t, m, 8, fuel); !reflect.DeepEqual(second, third) || !stayed() {
				t.Errorf("%v, and then %v; the model stayed: %v", second, third, stayed())
			}
		}
	}
}
