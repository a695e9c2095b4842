package must

import "slices"

// Spread: put in all that must be, or until there is a clause of which all numbers are not so; that one is told.
func (b *Board) Spread() int {
	for b.spread < len(b.Steps) {
		number := b.Steps[b.spread].Number
		b.spread++
		if clause := b.lookAt(-number); clause != None {
			b.Lost = b.Lost || b.Level == 0
			return clause
		}
	}
	return None
}

// lookAt the clauses that watch a number that has come to be not so, until all numbers of one are not so.
func (b *Board) lookAt(not int) int {
	watching := b.watched[not]
	kept := watching[:0]
	failed := None
	for i, by := range watching {
		b.Work++
		if !b.IsSo(by.other) {
			if b.turn(by.clause, not) {
				continue
			}
			by.other = b.Clauses[by.clause][0]
		}
		kept = append(kept, by)
		if b.IsNot(by.other) {
			kept = append(kept, watching[i+1:]...)
			failed = by.clause
			break
		}
		if !b.IsSo(by.other) {
			b.put(by.other, by.clause)
		}
	}
	b.watched[not] = kept
	return failed
}

// turn a clause's watch from a number that is not so to one that is not yet, if need be and if there is one. The other number that is watched comes to stand first.
func (b *Board) turn(clause, not int) bool {
	numbers := b.Clauses[clause]
	if numbers[0] == not {
		numbers[0], numbers[1] = numbers[1], not
	}
	if b.IsSo(numbers[0]) {
		return false
	}
	mayBe := func(number int) bool {
		b.Work++
		return !b.IsNot(number)
	}
	i := slices.IndexFunc(numbers[2:], mayBe)
	if i < 0 {
		return false
	}
	numbers[1], numbers[2+i] = numbers[2+i], not
	b.watch(numbers[1], watch{clause, numbers[0]})
	return true
}
