package blast

import "latchwork/graphs"

// same: are two words the same?
func (b *blaster) same(x, y []int) int {
	literal := graphs.Yes
	for i := range x {
		literal = b.both(literal, graphs.Turn(b.differ(x[i], y[i])))
	}
	return literal
}

// less: is a word less than another one? The upmost bits that differ say it, so they come last.
func (b *blaster) less(x, y []int) int {
	literal := graphs.No
	for i := range x {
		isNot := graphs.Turn(x[i])
		literal = b.either(b.both(isNot, y[i]), b.both(b.either(isNot, y[i]), literal))
	}
	return literal
}

// sum of two words and what is carried in: its bits, and what is carried out.
func (b *blaster) sum(x, y []int, carry int) ([]int, int) {
	bits := made(len(x), func(i int) int {
		half := b.differ(x[i], y[i])
		bit := b.differ(half, carry)
		carry = b.either(b.both(x[i], y[i]), b.both(half, carry))
		return bit
	})
	return bits, carry
}

// difference of two words: its bits, and whether the second is at most the first.
func (b *blaster) difference(x, y []int) ([]int, int) {
	return b.sum(x, turned(y), graphs.Yes)
}

// product of two words: the first one moved up by each bit's place of the second, if that bit is yes, all added.
func (b *blaster) product(x, y []int) []int {
	total := constant(0, len(x))
	for place, bit := range y {
		row := made(len(x), func(i int) int { return b.both(bit, at(x, i-place)) })
		total, _ = b.sum(total, row, graphs.No)
	}
	return total
}

// divide a word by another one, bit by bit from the upmost on: how often it is in it, and what is left. What is left is never more than the bits that were gone through, so one bit more always has room. Of 0, which is at most whatever is left, all bits are yes, and the word itself is left: as chapter 1 asks.
func (b *blaster) divide(x, y []int) (often, left []int) {
	often, left = make([]int, len(x)), constant(0, len(x))
	for i := len(x) - 1; i >= 0; i-- {
		longer := made(len(x), func(k int) int { return at(left, k-1) })
		longer[0] = x[i]
		rest, fits := b.difference(longer, y)
		often[i] = fits
		left = made(len(x), func(k int) int { return b.choose(fits, rest[k], longer[k]) })
	}
	return often, left
}

// shift a word by another one, up (1) or down (-1): by each bit's worth, if that bit is yes; beyond the word's ends nothing is left of it.
func (b *blaster) shift(x, by []int, way int) []int {
	for place, bit := range by {
		from, far := x, way<<place
		x = made(len(from), func(i int) int { return b.choose(bit, at(from, i-far), from[i]) })
	}
	return x
}
