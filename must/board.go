// Package must: putting in what must be, in one place for proofs and for searches.
package must

import (
	"slices"

	"latchwork/api"
)

// None stands where there is no clause.
const None = -1

// Step by which a number came to be so: on which level, and the clause by which it must be (None, if it was chosen).
type Step struct{ Number, Level, Clause int }

// Board of clauses, of what is so, and of what must be by that. What is so on level 0 is so for ever; all levels above it can be taken back.
type Board struct {
	Clauses [][]int // each with its numbers once; the first two are watched
	Steps   []Step
	Level   int
	Lost    bool // there is a clause of which all numbers are not so, for ever
	Work    int  // how many numbers and clauses were looked at

	so      map[int]int // by which step a number came to be so
	watched map[int][]watch
	spread  int // how many steps were gone on from
}

// watch that a clause keeps on one of its numbers, to be looked at when that one is not so any more; but need not be, while another number of it is so.
type watch struct{ clause, other int }

// New board, of clauses that pass their check, with all that must be by them.
func New(c api.Clauses) *Board {
	b := &Board{so: map[int]int{}, watched: map[int][]watch{}}
	for _, clause := range c.List {
		b.Add(clause)
	}
	b.Spread()
	return b
}

// Add a clause, and put in the one number of it that must be, if there is one. (A clause of one number is not watched: it must be added on level 0.)
func (b *Board) Add(clause []int) {
	numbers := slices.Clone(clause)
	slices.Sort(numbers)
	numbers = slices.Compact(numbers)
	b.pull(numbers, 0)
	b.pull(numbers, 1)
	if len(numbers) == 0 || b.IsNot(numbers[0]) {
		b.Lost = true
		return
	}
	number := len(b.Clauses)
	b.Clauses = append(b.Clauses, numbers)
	if len(numbers) > 1 {
		b.watch(numbers[0], watch{number, numbers[1]})
		b.watch(numbers[1], watch{number, numbers[0]})
	}
	if !b.IsSo(numbers[0]) && (len(numbers) == 1 || b.IsNot(numbers[1])) {
		b.put(numbers[0], number)
	}
}

// pull to a place, from there and behind, the number to be watched: one that is not yet not so, or else the last that came to be, as it is the first to be taken back.
func (b *Board) pull(numbers []int, place int) {
	until := func(number int) int {
		if place, isNot := b.so[-number]; isNot {
			return place
		}
		return len(b.Steps)
	}
	for i := place + 1; i < len(numbers); i++ {
		if until(numbers[i]) > until(numbers[place]) {
			numbers[i], numbers[place] = numbers[place], numbers[i]
		}
	}
}

func (b *Board) watch(number int, by watch) {
	b.watched[number] = append(b.watched[number], by)
}

// IsSo: is a number so?
func (b *Board) IsSo(number int) bool {
	_, is := b.so[number]
	return is
}

// IsNot: is a number not so?
func (b *Board) IsNot(number int) bool { return b.IsSo(-number) }

// Place of the step by which a number came to be so, if it is.
func (b *Board) Place(number int) (place int, is bool) {
	place, is = b.so[number]
	return place, is
}

// Choose a number that is neither, on a level of its own.
func (b *Board) Choose(number int) {
	b.Level++
	b.put(number, None)
}

// put in a number that is neither.
func (b *Board) put(number, clause int) {
	b.Work++
	b.so[number] = len(b.Steps)
	b.Steps = append(b.Steps, Step{Number: number, Level: b.Level, Clause: clause})
}

// Back to a level: the steps that are taken back are told, until the next one is made.
func (b *Board) Back(level int) []Step {
	kept := len(b.Steps)
	for kept > 0 && b.Steps[kept-1].Level > level {
		kept--
		delete(b.so, b.Steps[kept].Number)
	}
	undone := b.Steps[kept:]
	b.Steps, b.Level, b.spread = b.Steps[:kept], level, min(b.spread, kept)
	return undone
}
