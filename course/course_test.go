package course_test

import (
	"slices"
	"testing"

	"latchwork/api"
	"latchwork/course"
	"latchwork/samples"
)

func TestWords(t *testing.T) {
	m := samples.Lever()
	states, inputs := []int{1, 1, 6}, []int{2, 1}
	words := course.Words(m, states, inputs)
	if want := []int{2, 1, 1, 3, 0, 1, 3, 1, 1, 3, 6, 3, 1, 1, 0, 1, 0, 6, 254, 6, 0}; !slices.Equal(words, want) {
		t.Errorf("words: %v, want %v", words, want)
	}
	if !slices.Equal(states, []int{1, 1, 6}) || !slices.Equal(inputs, []int{2, 1}) {
		t.Errorf("changed: %v %v", states, inputs)
	}
	if words := course.Words(api.Model{}, nil, nil); len(words) > 0 {
		t.Errorf("words of nothing: %v", words)
	}
}

// The pairs need not be in the order of the states, and one without a pair stays as it is.
func TestFollow(t *testing.T) {
	m := samples.Lever()
	words := course.Words(m, []int{1, 1, 6}, []int{2, 1})
	if next := course.Follow(m, m.Nexts, words); !slices.Equal(next, []int{3, 1, 3}) {
		t.Errorf("next: %v", next)
	}
	words = course.Words(m, []int{3, 1, 0}, []int{2, 1})
	if begun := course.Follow(m, m.Inits, words); !slices.Equal(begun, []int{1, 1, 6}) {
		t.Errorf("begun: %v", begun)
	}
}

func TestLook(t *testing.T) {
	m := api.Model{Bads: []int{0, 1}, Holds: []int{2, 3}}
	for _, x := range []struct {
		words      []int
		holds, bad bool
	}{
		{[]int{0, 0, 1, 1}, true, false},
		{[]int{1, 0, 1, 1}, true, true},
		{[]int{0, 1, 0, 1}, false, true},
		{[]int{0, 0, 1, 0}, false, false},
	} {
		if holds, bad := course.Look(m, x.words); holds != x.holds || bad != x.bad {
			t.Errorf("%v: %v %v", x.words, holds, bad)
		}
	}
	if holds, bad := course.Look(api.Model{}, nil); !holds || bad {
		t.Errorf("of nothing: %v %v", holds, bad)
	}
}
