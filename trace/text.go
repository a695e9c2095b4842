package trace

import (
	"slices"

	"latchwork/api"
	"latchwork/lines"
)

// What lines begin with.
const (
	startWord = "start"
	inWord    = "in"
)

// Limits of numbers that are printed.
const (
	maxNumbers = 20
	maxNumber  = 255
)

// longestText is how many bytes a trace's text may have, so that a text that is none for its length alone is not split into words.
const (
	longestNumbers = maxNumbers*len(" 255") + len("\n")
	longestText    = len(startWord) + longestNumbers + maxInputs*(len(inWord)+longestNumbers)
)

// fit: may a trace be printed?
func fit(t api.Trace) api.Errno {
	if len(t.Inputs) > maxInputs {
		return api.ErrMany
	}
	lists := append([][]int{t.Start}, t.Inputs...)
	if slices.ContainsFunc(lists, func(list []int) bool { return len(list) > maxNumbers }) {
		return api.ErrMany
	}
	if slices.ContainsFunc(slices.Concat(lists...), func(number int) bool { return number < 0 || number > maxNumber }) {
		return api.ErrRange
	}
	return api.OK
}

// readLine: the numbers of a text's first line, and the text behind it, if the line begins with a word.
func readLine(s, first string) ([]int, string, bool) {
	words, rest, ended := lines.Next(s)
	if !ended || words[0] != first {
		return nil, "", false
	}
	numbers, good := lines.Numbers(words[1:])
	return numbers, rest, good
}
