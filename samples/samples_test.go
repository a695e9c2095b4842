package samples_test

import (
	"reflect"
	"slices"
	"testing"

	"latchwork/api"
	"latchwork/blast"
	"latchwork/gates"
	"latchwork/model"
	"latchwork/samples"
	"latchwork/trace"
)

func TestSamplesPass(t *testing.T) {
	for i, m := range []api.Model{samples.Turn(), samples.Lever(), samples.Kinds(), samples.Counter(8, 1, 40), samples.Sums(5)} {
		if e := model.Check(m); e != api.OK {
			t.Errorf("sample %d: %d", i, e)
		}
	}
	for number, node := range samples.Kinds().Nodes {
		if node.Kind != number+1 {
			t.Errorf("node %d is of kind %d", number, node.Kind)
		}
	}
	faulty, errors := samples.Faulty()
	for i, m := range faulty {
		if e := model.Check(m); e != errors[i] {
			t.Errorf("faulty sample %d: %d, want %d", i, e, errors[i])
		}
	}
}

func TestDrawnModelsPass(t *testing.T) {
	d := new(samples.Draw)
	kinds, begun := map[int]int{}, 0
	for range 2000 {
		m := d.Model(d.Below(api.MaxInputBits+1), d.Below(api.MaxStateBits+1), d.Below(60))
		if e := model.Check(m); e != api.OK {
			t.Fatalf("%v: %d", m, e)
		}
		begun += len(m.Inits)
		for _, node := range m.Nodes {
			kinds[node.Kind]++
		}
	}
	for range 200 {
		if m := d.Reckoner(5 + d.Below(4)); model.Check(m) != api.OK || len(m.Nodes) != 12 {
			t.Fatalf("%v: %d", m, model.Check(m))
		}
	}
	for range 200 {
		width := 2 + d.Below(4)
		if m := d.Shuffler(width, 1+d.Below(width), 1+d.Below(4)); model.Check(m) != api.OK {
			t.Fatalf("%v: %d", m, model.Check(m))
		}
	}
	for kind := api.KindConst; kind < api.Kinds; kind++ {
		if kinds[kind] < 100 {
			t.Errorf("just %d nodes of kind %d", kinds[kind], kind)
		}
	}
	if begun < 1000 {
		t.Errorf("just %d states have an Init", begun)
	}
}

func TestDrawnTracesPass(t *testing.T) {
	d := new(samples.Draw)
	for _, m := range []api.Model{{}, samples.Turn(), samples.Lever(), samples.Kinds()} {
		for steps := range api.MaxSteps + 1 {
			x := d.Trace(m, steps)
			if e := trace.Check(m, x); e != api.OK || len(x.Inputs) != steps+1 {
				t.Errorf("%v, of %d steps: %d", x, steps, e)
			}
		}
	}
}

func TestDrawnGraphsPass(t *testing.T) {
	d := new(samples.Draw)
	drawn := 0
	for ins := range 10 {
		for ands := range 40 {
			g := d.Graph(ins, ands)
			if e := gates.Check(g); e != api.OK || g.Ins != ins || len(g.Ands) > ands {
				t.Errorf("%v: %d", g, e)
			}
			drawn += len(g.Ands)
		}
	}
	if drawn < 4000 {
		t.Errorf("just %d Ands", drawn)
	}
}

func TestDrawnCircuitsPass(t *testing.T) {
	d := new(samples.Draw)
	begun := map[int]int{}
	for inputs := range 4 {
		for states := range 6 {
			c := d.Circuit(inputs, states, 12)
			if e := blast.Check(c); e != api.OK || c.Inputs != inputs || c.States != states {
				t.Errorf("%v: %d", c, e)
			}
			for _, init := range c.Inits {
				begun[init]++
			}
		}
	}
	if len(begun) != 3 || min(begun[-1], begun[0], begun[1]) < 5 {
		t.Errorf("begun: %v", begun)
	}
	wrong, errors := samples.WrongCircuits()
	for i, c := range wrong {
		if e := blast.Check(c); e != errors[i] {
			t.Errorf("wrong circuit %d: %d, want %d", i, e, errors[i])
		}
	}
}

// The machine of a model by hand: it begins as 0, is 1 next, and then it is bad; and from 1 on it is bad at once.
func TestMachine(t *testing.T) {
	x := samples.MachineOf(samples.Turn())
	want := samples.Machine{Begun: []int{0}, Moves: [][]samples.Move{{{Next: 1, Holds: true}}, {{Next: 0, Holds: true, Bad: true}}}}
	if !reflect.DeepEqual(x, want) || x.Fewest() != 1 || !x.Approached(0) || !x.Approached(1) || x.Approached(2) {
		t.Errorf("%v", x)
	}
	lever := samples.Lever()
	x = samples.MachineOf(lever)
	if len(x.Moves) != 64 || len(x.Moves[0]) != 8 || !slices.Equal(x.Begun, []int{1 | 6<<3, 1 | 1<<2 | 6<<3}) {
		t.Errorf("begun: %v", x.Begun)
	}
	if words := samples.Unpacked(lever, api.KindState, 1|1<<2|6<<3); !slices.Equal(words, []int{1, 1, 6}) {
		t.Errorf("unpacked: %v", words)
	}
}
