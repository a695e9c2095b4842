package must_test

import (
	"slices"
	"testing"

	"latchwork/api"
	"latchwork/must"
	"latchwork/samples"
)

// told: the numbers that are so, in the order of the steps.
func told(b *must.Board) []int {
	var numbers []int
	for _, step := range b.Steps {
		numbers = append(numbers, step.Number)
	}
	return numbers
}

func TestStepsAndLevels(t *testing.T) {
	b := must.New(api.Clauses{Vars: 6, List: [][]int{{1}, {-1, 2}, {-3, 4, -2}, {-5, -4, 6}, {-5, -6, -6}}})
	if !slices.Equal(told(b), []int{1, 2}) || b.Lost || b.Level != 0 {
		t.Fatalf("at first: %v, level %d", b.Steps, b.Level)
	}
	b.Choose(3)
	if failed := b.Spread(); failed != must.None || !slices.Equal(b.Steps[2:], []must.Step{{3, 1, must.None}, {4, 1, 2}}) {
		t.Fatalf("3 is chosen: %v, failed %d", b.Steps, failed)
	}
	b.Choose(5)
	if failed := b.Spread(); failed == must.None || b.Lost || b.Level != 2 {
		t.Fatalf("5 is chosen: %v, failed %d", b.Steps, failed)
	}
	if !b.IsSo(4) || !b.IsNot(-4) || b.IsSo(-4) || b.IsNot(4) {
		t.Error("4 is so")
	}
	if place, is := b.Place(4); place != 3 || !is {
		t.Errorf("place of 4: %d %v", place, is)
	}
	if undone := b.Back(1); len(undone) == 0 || undone[0].Number != 5 || b.Level != 1 || len(b.Steps) != 4 {
		t.Errorf("back to 1: %v, %v stay", undone, b.Steps)
	}
	b.Add([]int{-4, 5})
	if failed := b.Spread(); failed == must.None || !b.IsSo(5) {
		t.Errorf("5 must be: %v, failed %d", b.Steps, failed)
	}
	if undone := b.Back(0); len(undone) < 3 || b.IsSo(4) || b.IsNot(4) || !b.IsSo(2) {
		t.Errorf("back to 0: %v, %v stay", undone, b.Steps)
	}
	if _, is := b.Place(4); is {
		t.Error("4 has a place still")
	}
}

func TestLost(t *testing.T) {
	for _, list := range [][][]int{{nil}, {{1}, {-1}}, {{1, 1}, {-1, -1, -1}}, {{1}, {-1, 2}, {-1, -2}}, {{2}, nil, {1}}} {
		if b := must.New(api.Clauses{Vars: 2, List: list}); !b.Lost {
			t.Errorf("%v: not lost", list)
		}
	}
	for _, list := range [][][]int{nil, {{1}, {1}}, {{1, -1}}, {{1, 2}, {-1, 2}, {1, -2}, {-1, -2}}} {
		if b := must.New(api.Clauses{Vars: 2, List: list}); b.Lost {
			t.Errorf("%v: lost", list)
		}
	}
}

// What is so at the end of a spread leaves no clause with a number that must be; what was taken back leaves no trace.
func TestNothingIsLeftOut(t *testing.T) {
	d := new(samples.Draw)
	failures := 0
	for range 2000 {
		c := d.Clauses(8, 5+d.Below(25), 2, 4)
		b := must.New(c)
		for range 30 {
			number := d.Clause(c.Vars, 1)[0]
			if b.Lost || b.IsSo(number) || b.IsNot(number) {
				continue
			}
			b.Choose(number)
			if b.Spread() != must.None {
				failures++
				b.Back(d.Below(b.Level))
				continue
			}
			leaves(t, b, c)
		}
	}
	if failures < 500 {
		t.Errorf("just %d failures", failures)
	}
}

// leaves: on a board that has spread no clause has all numbers but one not so, and that one neither.
func leaves(t *testing.T, b *must.Board, c api.Clauses) {
	for _, clause := range c.List {
		open := slices.DeleteFunc(slices.Clone(clause), b.IsNot)
		slices.Sort(open)
		if open = slices.Compact(open); len(open) == 0 || len(open) == 1 && !b.IsSo(open[0]) {
			t.Fatalf("%v: of %v is left %v; so are %v", c, clause, open, told(b))
		}
	}
}

func TestBoardAndMemory(t *testing.T) {
	list, stayed := samples.RoomyList([][]int{{3, 1, 2}, {-1, -1}, {3, 3, -2}})
	b := must.New(api.Clauses{Vars: 3, List: list[:2]})
	b.Add(list[2])
	b.Choose(-2)
	b.Spread()
	if !stayed() {
		t.Errorf("changed: %v", list)
	}
	clear(list[0])
	if !b.IsSo(3) || slices.Contains(b.Clauses[0], 0) {
		t.Errorf("kept: %v", b.Clauses)
	}
}
