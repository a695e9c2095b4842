package prove_test

import (
	"math"
	"testing"

	"latchwork/api"
	"latchwork/prove"
	"latchwork/samples"
)

// isSafe by so many steps, as L1 says.
func isSafe(x samples.Machine, steps int) bool {
	fewest := x.Fewest()
	return (fewest < 0 || fewest >= steps) && !x.Approached(steps)
}

// still: a state of one bit that begins as 0, and is 0 for ever.
func still() api.Model {
	m := samples.Turn()
	m.Nexts[0].Node = 0
	return m
}

// stopped: a counter of 3 bits that begins as 0, and is 0 again behind 5; the last node is whether it is a number.
func stopped(bad int) api.Model {
	return api.Model{
		Nodes: []api.Node{
			{Kind: api.KindState, Width: 3},
			{Kind: api.KindConst, Width: 3},
			{Kind: api.KindConst, Width: 3, N: 1},
			{Kind: api.KindAdd, Width: 3, A: 0, B: 2},
			{Kind: api.KindConst, Width: 3, N: 5},
			{Kind: api.KindEq, Width: 1, A: 0, B: 4},
			{Kind: api.KindIf, Width: 3, A: 5, B: 1, C: 3},
			{Kind: api.KindConst, Width: 3, N: bad},
			{Kind: api.KindEq, Width: 1, A: 0, B: 7},
		},
		Inits: []api.Pair{{State: 0, Node: 1}},
		Nexts: []api.Pair{{State: 0, Node: 6}},
		Bads:  []int{8},
	}
}

// L1, L3: by hand.
func TestProveByHand(t *testing.T) {
	input := api.Model{Nodes: []api.Node{{Kind: api.KindInput, Width: 1}, {Kind: api.KindNot, Width: 1, A: 0}}, Bads: []int{0}}
	held := input
	held.Holds = []int{1}
	for i, x := range []struct {
		m     api.Model
		steps int
		want  bool
	}{
		{still(), 1, true}, // the document's
		{still(), 2, true},
		{still(), 40, true},
		{samples.Turn(), 1, false},
		{samples.Turn(), 2, false},
		{samples.Turn(), 40, false},
		{api.Model{}, 1, true},
		{api.Model{}, 40, true},
		{input, 1, false},
		{input, 40, false},
		{held, 1, true},
		{held, 40, true},
		{stopped(6), 1, true}, // nothing comes to 6 but itself
		{stopped(7), 1, false},
		{stopped(7), 2, true}, // 6 comes to 7, and nothing comes to 6
		{stopped(7), 3, true},
		{stopped(5), 4, false},
		{stopped(5), 40, false},
		{samples.Sums(3), 1, true},
		{samples.Sums(3), 10, true},
		{samples.Sums(3), 40, true},
		{samples.Sums(5), 40, true},
		{samples.Counter(8, 1, 41), 40, false}, // safe by none of 40 steps, and bad by 41
		{samples.Counter(3, 1, 7), 7, false},   // it comes to 7 by all 8 states, and not sooner
		{samples.Counter(3, 1, 7), 40, false},
	} {
		if got, e := prove.Prove(x.m, x.steps, api.MaxFuel); got != x.want || e != api.OK {
			t.Errorf("%d: %v %d, want %v", i, got, e, x.want)
		}
	}
}

// L3: of few nodes, bits and steps, with all the fuel there is: never too long. With less it may be, but is not told wrong.
func TestProveLittleModels(t *testing.T) {
	d := new(samples.Draw)
	told := map[bool]int{}
	for range 1000 {
		m := d.Model(d.Below(3), d.Below(4), d.Below(7))
		if d.Below(2) == 0 {
			m = d.Reckoner(5 + d.Below(2))
		}
		x := samples.MachineOf(m)
		for steps := 1; steps <= 2; steps++ {
			want := isSafe(x, steps)
			told[want]++
			if got, e := prove.Prove(m, steps, api.MaxFuel); got != want || e != api.OK {
				t.Fatalf("%v, %d steps: %v %d, want %v", m, steps, got, e, want)
			}
			got, e := prove.Prove(m, steps, d.Below(3))
			if e != api.ErrFuel && (got != want || e != api.OK) || e == api.ErrFuel && got {
				t.Fatalf("%v, %d steps, little fuel: %v %d, want %v", m, steps, got, e, want)
			}
		}
	}
	if min(told[true], told[false]) < 200 {
		t.Errorf("told: %v", told)
	}
}

// L3: models whose words are wide: never too long either.
func TestProveReckoners(t *testing.T) {
	d := new(samples.Draw)
	for range 150 {
		m := d.Reckoner(7 + d.Below(2))
		want := isSafe(samples.MachineOf(m), 2)
		if got, e := prove.Prove(m, 2, api.MaxFuel); got != want || e != api.OK {
			t.Fatalf("%v: %v %d, want %v", m, got, e, want)
		}
	}
}

// L3: more steps: seldom too long, and never told wrong.
func TestProveMoreSteps(t *testing.T) {
	d := new(samples.Draw)
	told := map[bool]int{}
	tooLong := 0
	for range 400 {
		m := d.Reckoner(5)
		if d.Below(3) == 0 {
			m = d.Model(d.Below(4), d.Below(4), d.Below(20))
		}
		x := samples.MachineOf(m)
		for _, steps := range []int{1 + d.Below(4), 5 + d.Below(4), 9 + d.Below(32)} {
			want := isSafe(x, steps)
			told[want]++
			got, e := prove.Prove(m, steps, api.MaxFuel)
			switch {
			case e == api.ErrFuel && !got:
				tooLong++
			case got != want || e != api.OK:
				t.Fatalf("%v, %d steps: %v %d, want %v", m, steps, got, e, want)
			}
		}
	}
	if tooLong > 0 || min(told[true], told[false]) < 300 {
		t.Errorf("%d took too long, told: %v", tooLong, told)
	}
}

// L4: what is safe by some steps has no trace that is bad, however long, and is safe by more steps, too; what has none is safe by as many steps as there are states.
func TestSafeIsSafe(t *testing.T) {
	d := new(samples.Draw)
	told := map[bool]int{}
	for range 200 {
		m := d.Reckoner(5)
		never := samples.MachineOf(m).Fewest() < 0
		was := false
		for steps := 1; steps <= 8; steps++ {
			got, e := prove.Prove(m, steps, api.MaxFuel)
			if e != api.OK || got && !never || was && !got || steps == 8 && got != never {
				t.Fatalf("%v, %d steps: %v %d; it never is bad: %v", m, steps, got, e, never)
			}
			was = got
		}
		told[never]++
	}
	if min(told[true], told[false]) < 30 {
		t.Errorf("told: %v", told)
	}
}

// L3, P1: errors, and which comes first; nothing with them.
func TestProveRefuses(t *testing.T) {
	wrong, errors := samples.Faulty()
	for i, m := range wrong {
		for _, x := range [][2]int{{1, 0}, {0, 0}, {1, -1}, {41, api.MaxFuel + 1}} {
			if got, e := prove.Prove(m, x[0], x[1]); got || e != errors[i] {
				t.Errorf("model %d, %v: %v %d, want %d", i, x, got, e, errors[i])
			}
		}
	}
	for _, x := range [][2]int{{0, 0}, {-1, 0}, {api.MaxSteps + 1, 0}, {math.MinInt, 0}, {math.MaxInt, 0}, {1, -1}, {1, api.MaxFuel + 1}, {40, math.MinInt}, {1, math.MaxInt}} {
		for _, m := range []api.Model{{}, still(), samples.Lever()} {
			if got, e := prove.Prove(m, x[0], x[1]); got || e != api.ErrRange {
				t.Errorf("%v: %v %d", x, got, e)
			}
		}
	}
}

// L3, P2, P3: what is handed in is only read, and an answer is the same each time.
func TestProveReads(t *testing.T) {
	for _, model := range []api.Model{still(), stopped(7), samples.Lever(), samples.Sums(3)} {
		m, stayed := samples.Roomy(model)
		for _, fuel := range []int{0, 10, api.MaxFuel} {
			first, e := prove.Prove(m, 3, fuel)
			if again, f := prove.Prove(m, 3, fuel); first != again || e != f {
				t.Errorf("%v %d, and then %v %d", first, e, again, f)
			}
		}
		if !stayed() {
			t.Errorf("changed: %v", m)
		}
	}
}
