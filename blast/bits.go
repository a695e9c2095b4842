package blast

import "latchwork/graphs"

// made: so many bits, each by its number.
func made(width int, bit func(i int) int) []int {
	bits := make([]int, width)
	for i := range bits {
		bits[i] = bit(i)
	}
	return bits
}

// constant: the bits of a number.
func constant(number, width int) []int {
	return made(width, func(i int) int {
		if number>>i&1 == 1 {
			return graphs.Yes
		}
		return graphs.No
	})
}

// turned: each bit turned round.
func turned(x []int) []int {
	return made(len(x), func(i int) int { return graphs.Turn(x[i]) })
}

// upmostTurned: words of which this is done stand to each other as those whose upmost bit counts as its opposite.
func upmostTurned(x []int) []int {
	return made(len(x), func(i int) int {
		if i == len(x)-1 {
			return graphs.Turn(x[i])
		}
		return x[i]
	})
}

// at: a bit of a word, which is no beyond both its ends.
func at(x []int, i int) int {
	if i < 0 || i >= len(x) {
		return graphs.No
	}
	return x[i]
}

// both: are two literals yes? (There is always room for an And: as many nodes as a model may have take fewer than 50,000.)
func (b *blaster) both(p, q int) int {
	literal, _ := b.And(p, q)
	return literal
}

// either: is one of two literals, or are both, yes?
func (b *blaster) either(p, q int) int {
	return graphs.Turn(b.both(graphs.Turn(p), graphs.Turn(q)))
}

// differ: is just one of two literals yes?
func (b *blaster) differ(p, q int) int {
	return b.both(b.either(p, q), graphs.Turn(b.both(p, q)))
}

// choose: one literal, if a third one is yes, else the other.
func (b *blaster) choose(which, yes, no int) int {
	if yes == no {
		return yes
	}
	return b.either(b.both(which, yes), b.both(graphs.Turn(which), no))
}
