package samples_test

import (
	"testing"

	"latchwork/api"
	"latchwork/model"
	"latchwork/samples"
)

func TestSamplesPass(t *testing.T) {
	for i, m := range []api.Model{samples.Turn(), samples.Lever(), samples.Kinds()} {
		if e := model.Check(m); e != api.OK {
			t.Errorf("sample %d: %d", i, e)
		}
	}
	for number, node := range samples.Kinds().Nodes {
		if node.Kind != number+1 {
			t.Errorf("node %d is of kind %d", number, node.Kind)
		}
	}
	faulty, errors := samples.Faulty()
	for i, m := range faulty {
		if e := model.Check(m); e != errors[i] {
			t.Errorf("faulty sample %d: %d, want %d", i, e, errors[i])
		}
	}
}

func TestDrawnModelsPass(t *testing.T) {
	d := new(samples.Draw)
	kinds, begun := map[int]int{}, 0
	for range 2000 {
		m := d.Model(d.Below(api.MaxInputBits+1), d.Below(api.MaxStateBits+1), d.Below(60))
		if e := model.Check(m); e != api.OK {
			t.Fatalf("%v: %d", m, e)
		}
		begun += len(m.Inits)
		for _, node := range m.Nodes {
			kinds[node.Kind]++
		}
	}
	for kind := api.KindConst; kind < api.Kinds; kind++ {
		if kinds[kind] < 100 {
			t.Errorf("just %d nodes of kind %d", kinds[kind], kind)
		}
	}
	if begun < 1000 {
		t.Errorf("just %d states have an Init", begun)
	}
}
