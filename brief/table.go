package brief

import (
	"iter"
	"math/bits"
	"slices"
)

// A guess says of each variable that it is so, that it is not, or nothing. It is a number with a digit for each, so that those that say more are greater.
const (
	silent = iota
	so
	not
	digits // how many there are
)

// blank is the guess that says nothing.
const blank = 0

// never is what a guess costs that may be right: all others cost less.
const never = 1 << Few

// table of what guesses cost: how many clauses it takes to prove that one is wrong, if each of them is used but once. It takes none, if a clause fails by the guess. Else the guess is parted by a variable of which it says nothing, and costs what both parts cost, but at least 1: so if one part costs nothing, the other one must be, and if putting in what must be makes a clause fail, that costs 1.
type table struct {
	names  []int // the variables
	places []int // what the digit of each of them counts
	prices []uint16
}

// newTable of the clauses of a group of variables.
func newTable(group uint, clauses []sides) *table {
	t := new(table)
	guesses := 1
	for ; group != 0; group &= group - 1 {
		t.names = append(t.names, bits.TrailingZeros(group))
		t.places = append(t.places, guesses)
		guesses *= digits
	}
	t.prices = slices.Repeat([]uint16{1}, guesses)
	for _, s := range clauses {
		if guess := t.guessOf(s); guess != blank { // else it is one of another group
			t.prices[guess] = 0
		}
	}
	t.spread()
	for guess, free := range t.guesses() {
		t.settle(guess, free)
	}
	return t
}

// price of the blank guess: of a proof that the clauses can't all hold.
func (t *table) price() int { return int(t.prices[blank]) }

// guessOf a clause: the one by which just its numbers are not so.
func (t *table) guessOf(s sides) int {
	guess := blank
	for i, name := range t.names {
		switch bit := uint(1) << name; {
		case s.plain&bit != 0:
			guess += not * t.places[i]
		case s.turned&bit != 0:
			guess += so * t.places[i]
		}
	}
	return guess
}

// clauseOf a guess: of the numbers that are not so by it.
func (t *table) clauseOf(guess int) []int {
	var clause []int
	for i, name := range t.names {
		switch t.digit(guess, i) {
		case so:
			clause = append(clause, -name)
		case not:
			clause = append(clause, name)
		}
	}
	return clause
}

func (t *table) digit(guess, variable int) int { return guess / t.places[variable] % digits }

// free variables of a guess: those of which it says nothing, a bit for each.
func (t *table) free(guess int) uint {
	free := uint(0)
	for variable := range t.places {
		if t.digit(guess, variable) == silent {
			free |= 1 << variable
		}
	}
	return free
}

// guesses: all of them, the greatest first, each with its free variables.
func (t *table) guesses() iter.Seq2[int, uint] {
	return func(yield func(guess int, free uint) bool) {
		said := slices.Repeat([]int{digits - 1}, len(t.places))
		free := uint(0)
		for guess := len(t.prices) - 1; guess != blank; guess-- {
			if !yield(guess, free) {
				return
			}
			variable := 0
			for ; said[variable] == silent; variable++ {
				said[variable] = digits - 1
				free &^= 1 << variable
			}
			if said[variable]--; said[variable] == silent {
				free |= 1 << variable
			}
		}
		yield(blank, free)
	}
}

// parts of a guess: two by each of its free variables, by one of which it is so, by the other one not.
func (t *table) parts(guess int, free uint) iter.Seq2[int, int] {
	return func(yield func(one, other int) bool) {
		for ; free != 0; free &= free - 1 {
			place := t.places[bits.TrailingZeros(free)]
			if !yield(guess+so*place, guess+not*place) {
				return
			}
		}
	}
}

// above a guess are those that say the same, and of its free variables from one on what may be said of these.
func (t *table) above(guess, variable int, said []int, visit func(guess int)) {
	for variable < len(t.places) && t.digit(guess, variable) != silent {
		variable++
	}
	if variable == len(t.places) {
		visit(guess)
		return
	}
	for _, digit := range said {
		t.above(guess+digit*t.places[variable], variable+1, said, visit)
	}
}

// spread: a clause that fails by a guess fails by all that say more.
func (t *table) spread() {
	for _, place := range t.places {
		for first := 0; first < len(t.prices); first += digits * place {
			for guess := first; guess < first+place; guess++ {
				if t.prices[guess] == 0 {
					t.prices[guess+so*place], t.prices[guess+not*place] = 0, 0
				}
			}
		}
	}
}

// settle what a guess costs, when all that say more are settled.
func (t *table) settle(guess int, free uint) {
	if t.prices[guess] > 0 {
		_, _, price := t.cheapest(guess, free)
		t.prices[guess] = max(price, 1)
	}
}

// cheapest parts of a guess, and what they cost together.
func (t *table) cheapest(guess int, free uint) (one, other int, price uint16) {
	price = never
	for a, b := range t.parts(guess, free) {
		if both := t.prices[a] + t.prices[b]; both < price {
			one, other, price = a, b, both
		}
	}
	return one, other, price
}

// prove that a guess is wrong; what is said last is that another one is, by which this one must be.
func (t *table) prove(proof [][]int, guess, last int) [][]int {
	if t.prices[guess] == 1 {
		return append(proof, t.clauseOf(last))
	}
	one, other, _ := t.cheapest(guess, t.free(guess))
	if t.prices[other] == 0 {
		one, other = other, one
	}
	if t.prices[one] > 0 {
		proof = t.prove(proof, one, one)
	}
	return t.prove(proof, other, last)
}
