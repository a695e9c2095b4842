package brief

import (
	"cmp"
	"math/bits"
	"slices"
)

// work that may be done for a proof that uses clauses more than once: to look at so many guesses, which takes some seconds.
const work = 1 << 28

// perLook is how many guesses are copied with as much work as one is looked at.
const perLook = 16

// seeker of a proof that has room.
type seeker struct {
	left int  // of the work that may be done
	more bool // was something left out, since there were too few picks?
}

func newSeeker() *seeker { return &seeker{left: work, more: true} }

// among some tables: is there a proof by one of them? First at most one clause of it is used more than once, then at most two, and so on.
func (s *seeker) among(tables []*table, room int) ([][]int, bool) {
	for picks := 1; s.more && s.left > 0; picks++ {
		s.more = false
		for _, t := range tables {
			if proof, found := s.seek(t, room, picks); found {
				return proof, true
			}
		}
	}
	return nil, false
}

// pick of a clause that is to be used more than once: that of a guess. When it is proved, it is as good as given.
type pick struct{ guess, total int } // what it costs, and what is left to prove then

// seek a proof by a table that leaves no room for one that uses each clause but once.
func (s *seeker) seek(t *table, room, picks int) ([][]int, bool) {
	dear := t.dear()
	var left []pick
	for _, guess := range t.picks(room) {
		if s.left -= 1 + len(dear) + len(t.prices)/perLook; s.left <= 0 {
			return nil, false
		}
		paid := int(t.prices[guess])
		next := t.with(guess, dear)
		if paid+next.price() <= room {
			return next.prove(t.prove(nil, guess, guess), blank, blank), true
		}
		if paid+next.least() <= room {
			left = append(left, pick{guess, paid + next.price()})
		}
	}
	if picks == 1 {
		s.more = s.more || len(left) > 0
		return nil, false
	}
	slices.SortStableFunc(left, func(a, b pick) int { return cmp.Compare(a.total, b.total) })
	for _, p := range left {
		proof := t.prove(nil, p.guess, p.guess)
		if rest, found := s.seek(t.with(p.guess, dear), room-len(proof), picks-1); found {
			return append(proof, rest...), true
		}
		if s.left <= 0 {
			break
		}
	}
	return nil, false
}

// least that a proof has: each clause of it halves the price at most, until that is 1.
func (t *table) least() int { return 1 + bits.Len(uint(t.price()-1)) }

// spot of a guess and its free variables.
type spot struct {
	guess int
	free  uint
}

// dear guesses: those that cost more than 1, the greatest first.
func (t *table) dear() []spot {
	var dear []spot
	for guess, free := range t.guesses() {
		if t.prices[guess] > 1 {
			dear = append(dear, spot{guess, free})
		}
	}
	return dear
}

// with a clause more, the one of a guess: those that cost less by that are dear ones, or say what it does.
func (t *table) with(guess int, dear []spot) *table {
	next := &table{names: t.names, places: t.places, prices: slices.Clone(t.prices)}
	next.above(guess, 0, []int{silent, so, not}, func(above int) { next.prices[above] = 0 })
	for _, s := range dear {
		next.settle(s.guess, s.free)
	}
	return next
}

// picks that leave room for the two clauses that come behind them at least. First come those that say little and cost little: they are most likely to be of use.
func (t *table) picks(room int) []int {
	var picks []int
	for guess, free := range t.guesses() {
		if price := int(t.prices[guess]); price > 0 && price <= room-2 && t.isBest(guess, free) {
			picks = append(picks, guess)
		}
	}
	slices.SortStableFunc(picks, func(a, b int) int {
		return cmp.Compare(int(t.prices[a])-bits.OnesCount(t.free(a)), int(t.prices[b])-bits.OnesCount(t.free(b)))
	})
	return picks
}

// isBest: does each guess cost more that says one thing less?
func (t *table) isBest(guess int, free uint) bool {
	for variable, place := range t.places {
		if free&(1<<variable) != 0 {
			continue
		}
		if less := guess - place*t.digit(guess, variable); t.prices[less] <= t.prices[guess] {
			return false
		}
	}
	return true
}
