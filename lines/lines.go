// Package lines: texts of lines, each with a line feed at its end, of words with one blank between them; for the layers that print and parse.
package lines

import (
	"strconv"
	"strings"
)

const (
	blank    = " "
	lineFeed = "\n"
)

// maxDigits is how many digits a number in a text may have.
const maxDigits = 9

// Writer of lines.
type Writer struct{ strings.Builder }

// Line writes one line.
func (w *Writer) Line(words ...string) {
	for i, word := range words {
		if i > 0 {
			w.WriteString(blank)
		}
		w.WriteString(word)
	}
	w.WriteString(lineFeed)
}

// Numbers writes one line: a word, and numbers.
func (w *Writer) Numbers(first string, numbers ...int) {
	words := []string{first}
	for _, number := range numbers {
		words = append(words, strconv.Itoa(number))
	}
	w.Line(words...)
}

// Next line of a text: its words, the text behind it, and whether a line feed ends it. (Where blanks are not one between two words, there are words without a byte.)
func Next(text string) (words []string, rest string, ended bool) {
	line, rest, ended := strings.Cut(text, lineFeed)
	return strings.Split(line, blank), rest, ended
}

// Number that a word tells, if it tells one.
func Number(word string) (int, bool) {
	if word == "" || len(word) > maxDigits || word[0] == '0' && len(word) > 1 {
		return 0, false
	}
	number := 0
	for i := range len(word) {
		digit := word[i]
		if digit < '0' || digit > '9' {
			return 0, false
		}
		number = 10*number + int(digit-'0')
	}
	return number, true
}

// Numbers that words tell, if each of them tells one.
func Numbers(words []string) ([]int, bool) {
	var numbers []int
	for _, word := range words {
		number, good := Number(word)
		if !good {
			return nil, false
		}
		numbers = append(numbers, number)
	}
	return numbers, true
}
