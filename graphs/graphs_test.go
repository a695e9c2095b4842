package graphs_test

import (
	"math"
	"slices"
	"testing"

	"latchwork/api"
	"latchwork/graphs"
)

func TestLiterals(t *testing.T) {
	for node := range 5 {
		plain, turned := 2*node, 2*node+1
		if graphs.Literal(node) != plain || graphs.Node(plain) != node || graphs.Node(turned) != node {
			t.Errorf("node %d", node)
		}
		if graphs.IsTurned(plain) || !graphs.IsTurned(turned) || graphs.Turn(plain) != turned || graphs.Turn(turned) != plain {
			t.Errorf("node %d, turned round", node)
		}
	}
}

func TestHas(t *testing.T) {
	for _, x := range []struct {
		g    api.Graph
		last int
	}{{api.Graph{}, 1}, {api.Graph{Ins: 3}, 7}, {api.Graph{Ins: 2, Ands: [][2]int{{2, 4}, {3, 4}}}, 9}} {
		if got := graphs.Nodes(x.g); got != (x.last+1)/2 {
			t.Errorf("%v has %d nodes", x.g, got)
		}
		if !graphs.Has(x.g) || !graphs.Has(x.g, 0, x.last) {
			t.Errorf("%v has not 0 and %d", x.g, x.last)
		}
		for _, literal := range []int{math.MinInt, -2, -1, x.last + 1, x.last + 2, math.MaxInt} {
			if graphs.Has(x.g, literal) || graphs.Has(x.g, 0, literal, 1) {
				t.Errorf("%v has %d", x.g, literal)
			}
		}
	}
}

func TestBesides(t *testing.T) {
	literals := []int{0, 1, 7, 1, -1, 1}
	for literal, want := range map[int]int{0: 5, 1: 3, -1: 5, 6: 6} {
		if got := graphs.Besides(literals, literal); got != want {
			t.Errorf("besides %d: %d, want %d", literal, got, want)
		}
	}
	if graphs.Besides(nil, graphs.Free) != 0 {
		t.Error("of none there are some")
	}
}

func TestMaker(t *testing.T) {
	given := api.Graph{Ins: 2, Ands: append(make([][2]int, 0, 9), [2]int{2, 4})}
	m, once := graphs.From(given)
	if !once {
		t.Fatal("one And is twice there")
	}
	for _, x := range [][3]int{{0, 5, 0}, {5, 0, 0}, {1, 5, 5}, {5, 1, 5}, {1, 1, 1}, {0, 1, 0}, {4, 5, 0}, {5, 4, 0}, {3, 3, 3}, {4, 2, 6}, {5, 2, 8}, {2, 5, 8}, {8, 6, 10}, {7, 9, 12}, {6, 8, 10}} {
		if literal, made := m.And(x[0], x[1]); literal != x[2] || !made {
			t.Errorf("%v: %d %v", x, literal, made)
		}
	}
	if m.Ins != 2 || !slices.Equal(m.Ands, [][2]int{{2, 4}, {2, 5}, {6, 8}, {7, 9}}) {
		t.Errorf("made: %v", m.Graph)
	}
	if spare := given.Ands[:2]; spare[1] != [2]int{} {
		t.Errorf("what was given is changed: %v", spare)
	}
	if _, once := graphs.From(api.Graph{Ins: 3, Ands: [][2]int{{2, 4}, {2, 5}, {2, 4}}}); once {
		t.Error("an And that is there twice is not seen")
	}
}

func TestMakerStopsAtTheBound(t *testing.T) {
	m, _ := graphs.From(api.Graph{Ins: 1000})
	last := 0
	for a := 2; len(m.Ands) < api.MaxGates; a++ {
		for b := a&^1 + 2; b < 2002 && len(m.Ands) < api.MaxGates; b++ {
			literal, made := m.And(b, a)
			if last = 2 * (1000 + len(m.Ands)); !made || literal != last {
				t.Fatalf("%d and %d: %d %v, want %d", a, b, literal, made, last)
			}
		}
	}
	if literal, made := m.And(2, last); literal != 0 || made {
		t.Errorf("one too many: %d %v", literal, made)
	}
	if literal, made := m.And(4, 2); literal != 2002 || !made {
		t.Errorf("one that is there: %d %v", literal, made)
	}
	if literal, made := m.And(last, 1); literal != last || !made || len(m.Ands) != api.MaxGates {
		t.Errorf("one that takes no And: %d %v", literal, made)
	}
}
