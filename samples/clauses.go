package samples

import (
	"slices"

	"latchwork/api"
)

// Clauses that pass their check: of so many variables, so many, each of at least and at most so many numbers, some of them twice.
func (d *Draw) Clauses(vars, count, shortest, longest int) api.Clauses {
	c := api.Clauses{Vars: vars}
	for range count {
		c.List = append(c.List, d.Clause(vars, shortest+d.Below(longest-shortest+1)))
	}
	return c
}

// Clause of so many numbers.
func (d *Draw) Clause(vars, numbers int) []int {
	var clause []int
	for range numbers {
		clause = append(clause, (1+d.Below(vars))*(1-2*d.Below(2)))
	}
	return clause
}

// Pigeons: so many, each of which has a hole of its own, with one hole too few. Nothing makes that hold.
func Pigeons(n int) api.Clauses {
	c := api.Clauses{Vars: n * (n - 1)}
	sits := func(pigeon, hole int) int { return 1 + pigeon*(n-1) + hole }
	for pigeon := range n {
		var somewhere []int
		for hole := range n - 1 {
			somewhere = append(somewhere, sits(pigeon, hole))
			for other := range pigeon {
				c.List = append(c.List, []int{-sits(other, hole), -sits(pigeon, hole)})
			}
		}
		c.List = append(c.List, somewhere)
	}
	return c
}

// Corners: the clauses of all variables, each of which fails by one of all values. Nothing makes all of them hold, and whatever one is left out is made to hold by one.
func Corners(vars int) api.Clauses {
	c := api.Clauses{Vars: vars}
	for _, values := range Values(vars) {
		var clause []int
		for i, value := range values {
			if value {
				clause = append(clause, -(i + 1))
			} else {
				clause = append(clause, i+1)
			}
		}
		c.List = append(c.List, clause)
	}
	return c
}

// CanHold: is there a value for each variable that makes all clauses hold? All values are gone through.
func CanHold(c api.Clauses) bool {
	for _, values := range Values(c.Vars) {
		if Hold(c.List, values) {
			return true
		}
	}
	return false
}

// Hold: has each clause a number that is so?
func Hold(list [][]int, values []bool) bool {
	for _, clause := range list {
		some := false
		for _, n := range clause {
			some = some || n > 0 && values[n-1] || n < 0 && !values[-n-1]
		}
		if !some {
			return false
		}
	}
	return true
}

// RoomyList: a copy of a list of clauses with spare room behind it and behind each clause that is filled with odd numbers, and what tells whether they, and it, have stayed as they were.
func RoomyList(list [][]int) ([][]int, func() bool) {
	fill := func(list [][]int) [][]int {
		var long [][]int
		for _, clause := range list {
			long = append(long, append(slices.Clone(clause), 77, 78)[:len(clause)])
		}
		return append(long, []int{77}, []int{78})
	}
	same := func(a, b []int) bool {
		return slices.Equal(a, b) && slices.Equal(a[:min(cap(a), len(a)+2)], b[:min(cap(b), len(b)+2)])
	}
	roomy, was := fill(list), fill(list)
	return roomy[:len(list)], func() bool { return slices.EqualFunc(roomy, was, same) }
}
