package brief

import (
	"cmp"
	"slices"

	"latchwork/must"
)

// sides of a clause: the variables that stand in it as they are, and those of which the opposite does, a bit for each.
type sides struct{ plain, turned uint }

func sidesOf(clause []int) sides {
	var s sides
	for _, number := range clause {
		if number > 0 {
			s.plain |= 1 << number
		} else {
			s.turned |= 1 << -number
		}
	}
	return s
}

// variables that stand in it either way.
func (s sides) variables() uint { return s.plain | s.turned }

// leftOf a board's clauses, each once: of those that do not hold anyway the numbers that are neither so nor not.
func leftOf(board *must.Board) []sides {
	var left []sides
	for _, clause := range board.Clauses {
		if slices.ContainsFunc(clause, board.IsSo) {
			continue
		}
		s := sidesOf(slices.DeleteFunc(slices.Clone(clause), board.IsNot))
		if s.plain&s.turned == 0 {
			left = append(left, s)
		}
	}
	slices.SortFunc(left, func(a, b sides) int {
		return cmp.Or(cmp.Compare(a.plain, b.plain), cmp.Compare(a.turned, b.turned))
	})
	return slices.Compact(left)
}

// groupsOf variables that hang together by clauses. A proof need not go beyond one of them: where it does, what it says of another one may be left out.
func groupsOf(clauses []sides) []uint {
	var groups []uint
	for _, s := range clauses {
		joined := s.variables()
		join := func(group uint) bool {
			if group&s.variables() == 0 {
				return false
			}
			joined |= group
			return true
		}
		groups = append(slices.DeleteFunc(groups, join), joined)
	}
	return groups
}
