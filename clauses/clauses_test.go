package clauses_test

import (
	"slices"
	"testing"

	"latchwork/clauses"
)

func same(a, b [][]int) bool { return slices.EqualFunc(a, b, slices.Equal[[]int]) }

func TestNumber(t *testing.T) {
	for literal, want := range map[int]int{2: 1, 3: -1, 10: 5, 11: -5} {
		if got := clauses.Number(literal); got != want {
			t.Errorf("literal %d: %d, want %d", literal, got, want)
		}
	}
}

func TestMaker(t *testing.T) {
	var m clauses.Maker
	m.Add(7)
	m.Add()
	m.And(4, [2]int{2, 7})
	m.Root(9)
	m.Root(1)
	m.Root(0)
	m.Root(2)
	if !same(m.List, [][]int{{7}, nil, {-4, 1}, {-4, -3}, {4, -1, 3}, {-4}, nil, {1}}) {
		t.Errorf("made: %v", m.List)
	}
}

func TestMakerKeepsNothing(t *testing.T) {
	var m clauses.Maker
	numbers := []int{1, 2, 77}
	m.Add(numbers[:2]...)
	m.Add(numbers[:2]...)
	numbers[0] = 9
	m.List[0][1] = 8
	if !same(m.List, [][]int{{1, 8}, {1, 2}}) || !slices.Equal(numbers, []int{9, 2, 77}) {
		t.Errorf("shared: %v of %v", m.List, numbers)
	}
}

func TestClausesOfAnAnd(t *testing.T) {
	var m clauses.Maker
	m.And(3, [2]int{2, 5})
	if len(m.List) != clauses.PerAnd {
		t.Errorf("%d clauses", len(m.List))
	}
}

func TestSame(t *testing.T) {
	for _, x := range []struct {
		literal, other int
		want           [][]int
	}{
		{14, 1, [][]int{{7}}},
		{14, 0, [][]int{{-7}}},
		{15, 1, [][]int{{-7}}},
		{15, 0, [][]int{{7}}},
		{14, 8, [][]int{{-7, 4}, {7, -4}}},
		{14, 11, [][]int{{-7, -5}, {7, 5}}},
		{15, 11, [][]int{{7, -5}, {-7, 5}}},
	} {
		var m clauses.Maker
		if m.Same(x.literal, x.other); !same(m.List, x.want) {
			t.Errorf("%d is %d: %v, want %v", x.literal, x.other, m.List, x.want)
		}
	}
}

func TestNew(t *testing.T) {
	var m clauses.Maker
	m.Vars = 5
	if a, b := m.New(), m.New(); a != 6 || b != 7 || m.Vars != 7 {
		t.Errorf("new: %d, %d of %d", a, b, m.Vars)
	}
}
