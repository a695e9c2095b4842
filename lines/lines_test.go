package lines_test

import (
	"slices"
	"testing"

	"latchwork/lines"
)

func TestLine(t *testing.T) {
	var w lines.Writer
	w.Line("one")
	w.Line()
	w.Line("one", "and", "two")
	w.Numbers("none")
	w.Numbers("some", 0, -7, 255)
	if got := w.String(); got != "one\n\none and two\nnone\nsome 0 -7 255\n" {
		t.Errorf("%q", got)
	}
}

func TestNext(t *testing.T) {
	for _, x := range []struct {
		text  string
		words []string
		rest  string
		ended bool
	}{
		{"a b\nc\n", []string{"a", "b"}, "c\n", true},
		{"a\n", []string{"a"}, "", true},
		{"a b", []string{"a", "b"}, "", false},
		{"", []string{""}, "", false},
		{"\n\n", []string{""}, "\n", true},
		{" a  b \n", []string{"", "a", "", "b", ""}, "", true},
		{"a\tb\r\n", []string{"a\tb\r"}, "", true},
	} {
		words, rest, ended := lines.Next(x.text)
		if !slices.Equal(words, x.words) || rest != x.rest || ended != x.ended {
			t.Errorf("%q: %q %q %v", x.text, words, rest, ended)
		}
	}
}

func TestNumber(t *testing.T) {
	for word, want := range map[string]int{"0": 0, "1": 1, "9": 9, "10": 10, "255": 255, "999999999": 999999999, "100000000": 100000000} {
		if got, ok := lines.Number(word); got != want || !ok {
			t.Errorf("%q: %d %v", word, got, ok)
		}
	}
	for _, word := range []string{"", "00", "01", "-1", "+1", "-0", "1.", "x", "1x", "x1", "0x1", "1_0", " 1", "1 ", "1000000000", "0000000001", "99999999999999999999", "\u0661", "1\x00", "\xff", "/", ":"} {
		if got, ok := lines.Number(word); got != 0 || ok {
			t.Errorf("%q: %d %v", word, got, ok)
		}
	}
}

func TestNumbers(t *testing.T) {
	for _, x := range []struct {
		words []string
		want  []int
		good  bool
	}{
		{nil, nil, true},
		{[]string{"7"}, []int{7}, true},
		{[]string{"0", "10", "3"}, []int{0, 10, 3}, true},
		{[]string{""}, nil, false},
		{[]string{"1", "x", "3"}, nil, false},
		{[]string{"1", "2", "03"}, nil, false},
	} {
		if got, good := lines.Numbers(x.words); !slices.Equal(got, x.want) || good != x.good {
			t.Errorf("%q: %v %v", x.words, got, good)
		}
	}
}
