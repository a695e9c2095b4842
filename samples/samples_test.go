package samples_test

import (
	"testing"

	"latchwork/api"
	"latchwork/gates"
	"latchwork/model"
	"latchwork/samples"
	"latchwork/trace"
)

func TestSamplesPass(t *testing.T) {
	for i, m := range []api.Model{samples.Turn(), samples.Lever(), samples.Kinds()} {
		if e := model.Check(m); e != api.OK {
			t.Errorf("sample %d: %d", i, e)
		}
	}
	for number, node := range samples.Kinds().Nodes {
		if node.Kind != number+1 {
			t.Errorf("node %d is of kind %d", number, node.Kind)
		}
	}
	faulty, errors := samples.Faulty()
	for i, m := range faulty {
		if e := model.Check(m); e != errors[i] {
			t.Errorf("faulty sample %d: %d, want %d", i, e, errors[i])
		}
	}
}

func TestDrawnModelsPass(t *testing.T) {
	d := new(samples.Draw)
	kinds, begun := map[int]int{}, 0
	for range 2000 {
		m := d.Model(d.Below(api.MaxInputBits+1), d.Below(api.MaxStateBits+1), d.Below(60))
		if e := model.Check(m); e != api.OK {
			t.Fatalf("%v: %d", m, e)
		}
		begun += len(m.Inits)
		for _, node := range m.Nodes {
			kinds[node.Kind]++
		}
	}
	for kind := api.KindConst; kind < api.Kinds; kind++ {
		if kinds[kind] < 100 {
			t.Errorf("just %d nodes of kind %d", kinds[kind], kind)
		}
	}
	if begun < 1000 {
		t.Errorf("just %d states have an Init", begun)
	}
}

func TestDrawnTracesPass(t *testing.T) {
	d := new(samples.Draw)
	for _, m := range []api.Model{{}, samples.Turn(), samples.Lever(), samples.Kinds()} {
		for steps := range api.MaxSteps + 1 {
			x := d.Trace(m, steps)
			if e := trace.Check(m, x); e != api.OK || len(x.Inputs) != steps+1 {
				t.Errorf("%v, of %d steps: %d", x, steps, e)
			}
		}
	}
}

func TestDrawnGraphsPass(t *testing.T) {
	d := new(samples.Draw)
	drawn := 0
	for ins := range 10 {
		for ands := range 40 {
			g := d.Graph(ins, ands)
			if e := gates.Check(g); e != api.OK || g.Ins != ins || len(g.Ands) > ands {
				t.Errorf("%v: %d", g, e)
			}
			drawn += len(g.Ands)
		}
	}
	if drawn < 4000 {
		t.Errorf("just %d Ands", drawn)
	}
}
