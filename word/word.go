// Package word: words: see doc/01-word.md.
package word

import (
	"latchwork/api"
	"latchwork/basics"
)

// Fit: may an operation have these widths?
func Fit(kind, width, n int, widths [3]int) api.Errno {
	asked, known := demands()[shapeOf(kind)]
	if !known {
		return api.ErrKind
	}
	if !basics.IsWidth(width) || !inRange(kind, widths) {
		return api.ErrRange
	}
	if kind != api.KindCut && n != 0 {
		return api.ErrForm
	}
	if !asked.met(width, n, widths) {
		return api.ErrForm
	}
	return api.OK
}

// Apply an operation.
func Apply(kind, width int, a, b, c, n int, widths [3]int) (int, api.Errno) {
	if e := Fit(kind, width, n, widths); e != api.OK {
		return 0, e
	}
	for i, number := range [3]int{a, b, c} {
		// Where api names no word, Fit has seen to it that the width is 0, so just 0 passes.
		if !basics.IsWord(number, widths[i]) {
			return 0, api.ErrRange
		}
	}
	switch shapeOf(kind) {
	case compared:
		return compare(kind, a, b, widths[0]), api.OK
	case chosen:
		if a == 1 {
			return b, api.OK
		}
		return c, api.OK
	case joined:
		return a<<widths[1] | b, api.OK
	case cutOut:
		return within(a>>n, width), api.OK
	case widened:
		return widen(kind, width, a, widths[0]), api.OK
	}
	return within(calculate(kind, width, a, b), width), api.OK
}

// within leaves away what is beyond a width; a number below 0 stands for endless 1 bits ahead.
func within(number, width int) int { return number & (1<<width - 1) }

// calculate what an operation whose words all have one width makes, maybe with bits beyond it.
func calculate(kind, width, a, b int) int {
	switch kind {
	case api.KindNot:
		return ^a
	case api.KindNeg:
		return -a
	case api.KindAnd:
		return a & b
	case api.KindOr:
		return a | b
	case api.KindXor:
		return a ^ b
	case api.KindAdd:
		return a + b
	case api.KindSub:
		return a - b
	case api.KindMul:
		return a * b
	case api.KindDiv:
		if b == 0 {
			return -1
		}
		return a / b
	case api.KindRem:
		if b == 0 {
			return a
		}
		return a % b
	}
	return shift(kind, width, a, b)
}

// shift a by b bits; b may be far beyond the width, and nothing is left then.
func shift(kind, width, a, b int) int {
	switch {
	case b >= width:
		return 0
	case kind == api.KindShl:
		return a << b
	}
	return a >> b
}

func compare(kind, a, b, width int) int {
	holds := a == b
	switch kind {
	case api.KindLess:
		holds = a < b
	case api.KindSigned:
		holds = signed(a, width) < signed(b, width)
	}
	if holds {
		return 1
	}
	return 0
}

func widen(kind, width, a, from int) int {
	if kind == api.KindSpread {
		return within(signed(a, from), width)
	}
	return a
}

// signed: a word's number, where its upmost bit counts as its opposite.
func signed(a, width int) int { return a - (a >> (width - 1) << width) }
