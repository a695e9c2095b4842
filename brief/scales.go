package brief

const (
	// fullWeight is what each whole guess weighs at first.
	fullWeight = 1 << 40
	// weighings: so many there may be, and of so many guesses in all.
	weighings = 512
	weighed   = 1 << 24
	// Each time a guess gets lighter by one of so many parts, at first; by one of twice as many after each so many weighings.
	firstShift = 3
	perShift   = 128
)

// scales show that no proof has room, by weighing whole guesses: those that leave no variable free.
//
// A clause of a proof follows by a row of guesses. The first one is that by which it fails. Each other one says one thing more, since by the opposite of that a clause fails, one that is given or an earlier one of the proof; and by the last one such a clause fails, too. So where the proof's clause fails by a whole guess, one of these does; if it is one of the proof, go on in its row; and so on, until the guess ends at a clause that is given. By each whole guess the empty clause fails, so each of them ends, in one of as many rows as the proof has clauses. Now if no row can end more than a third of all that they weigh, there are at least three; and so on.
type scales struct {
	*table
	weights []int64 // for each guess: what the whole ones weigh that say what it does
	ends    []int64 // how much of that can end in a row, from the guess on
}

func newScales(t *table) *scales {
	s := &scales{table: t, weights: make([]int64, len(t.prices)), ends: make([]int64, len(t.prices))}
	for guess, free := range t.guesses() {
		if free == 0 {
			s.weights[guess] = fullWeight
		}
	}
	return s
}

// outweigh: is it shown that no proof has room? Each time, what ends in the heaviest row gets lighter, so that no row stays much heavier than others.
func (s *scales) outweigh(room int) bool {
	for i := range min(weighings, weighed/len(s.prices)) {
		s.weigh()
		if (s.weights[blank]-1)/s.ends[blank] >= int64(room) {
			return true
		}
		s.lighten(firstShift + i/perShift)
	}
	return false
}

func (s *scales) weigh() {
	for guess, free := range s.guesses() {
		if free != 0 {
			one, other, ends := s.heaviest(guess, free)
			s.weights[guess] = s.weights[one] + s.weights[other]
			s.ends[guess] = ends
		}
		if s.prices[guess] == 0 {
			s.ends[guess] = s.weights[guess]
		}
	}
}

// heaviest way on in a row, and how much ends in it. By the opposite of the next guess a clause fails; if none that is given does, it may be one of the proof.
func (s *scales) heaviest(guess int, free uint) (opposite, next int, ends int64) {
	ends = -1
	for one, other := range s.parts(guess, free) {
		if sum := s.ended(one) + s.ends[other]; sum > ends {
			opposite, next, ends = one, other, sum
		}
		if sum := s.ended(other) + s.ends[one]; sum > ends {
			opposite, next, ends = other, one, sum
		}
	}
	return opposite, next, ends
}

// ended is what ends at a clause that is given, if one fails by a guess.
func (s *scales) ended(guess int) int64 {
	if s.prices[guess] == 0 {
		return s.weights[guess]
	}
	return 0
}

// lighten what ends in the heaviest row.
func (s *scales) lighten(shift int) {
	guess := blank
	for s.prices[guess] > 0 {
		opposite, next, _ := s.heaviest(guess, s.free(guess))
		s.shrink(opposite, shift)
		guess = next
	}
	s.shrink(guess, shift)
}

func (s *scales) shrink(guess, shift int) {
	if s.prices[guess] == 0 {
		s.above(guess, 0, []int{so, not}, func(whole int) { s.weights[whole] -= s.weights[whole] >> shift })
	}
}
