package chain

import (
	"slices"

	"latchwork/api"
	"latchwork/search"
)

// Clauses of steps are little, if there are at most so many bits to choose (as two steps have, of inputs of 2 bits and states of 3), and at most so many variables (more than two steps of 12 nodes take).
const (
	littleBits = 9
	littleVars = 30000
)

// Settle clauses of so many steps of a circuit: can all of them hold, and by which values? Of little ones that is told, if all the fuel there is may be spent.
func Settle(c api.Circuit, steps int, list api.Clauses, fuel int) (verdict int, values []bool) {
	choices := choicesOf(c, steps)
	if fuel < api.MaxFuel || len(choices) > littleBits || list.Vars > littleVars {
		choices = nil
	}
	return halve(list, choices, fuel)
}

// choicesOf so many steps: the variables on which all that comes in them hangs.
func choicesOf(c api.Circuit, steps int) []int {
	var choices []int
	for bit := range c.States {
		choices = append(choices, 1+c.Inputs+bit)
	}
	for step := range steps + 1 {
		for bit := range c.Inputs {
			choices = append(choices, step*Stride(c)+1+bit)
		}
	}
	return choices
}

// halve a search that would take too long: each half is told what the next choice is, and gets half of the fuel. Where all choices are told, all else must be as it is, and there is nothing left to search.
func halve(list api.Clauses, choices []int, fuel int) (verdict int, values []bool) {
	answer, e := search.Solve(list, fuel)
	if e != api.OK {
		return api.VerdictUnknown, nil
	}
	if answer.Verdict != api.VerdictUnknown || len(choices) == 0 {
		return answer.Verdict, answer.Values
	}
	for _, number := range [2]int{choices[0], -choices[0]} {
		half := api.Clauses{Vars: list.Vars, List: append(slices.Clip(list.List), []int{number})}
		if verdict, values = halve(half, choices[1:], fuel/2); verdict != api.VerdictNo {
			break
		}
	}
	return verdict, values
}
