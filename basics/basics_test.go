package basics_test

import (
	"slices"
	"testing"

	"latchwork/api"
	"latchwork/basics"
)

func TestWordsAreThoseThatApiNames(t *testing.T) {
	// From kind 0 on: none, const, input, state, not, neg, and .. shr, eq, less, signed, if, join, cut, wide, spread, none.
	want := []int{0, 0, 0, 0, 1, 1, 2, 2, 2, 2, 2, 2, 2, 2, 2, 2, 2, 2, 2, 3, 2, 1, 1, 1, 0}
	for kind, words := range want {
		if got := basics.Words(kind); got != words {
			t.Errorf("kind %d: %d words, want %d", kind, got, words)
		}
		on := basics.Operands(api.Node{Kind: kind, A: 7, B: 8, C: 9})
		if !slices.Equal(on, []int{7, 8, 9}[:words]) {
			t.Errorf("kind %d: operands %v", kind, on)
		}
		if got := basics.IsKind(kind); got != (kind >= 1 && kind <= 23) {
			t.Errorf("kind %d is one: %v", kind, got)
		}
		if got := basics.IsOperation(kind); got != (words > 0) {
			t.Errorf("kind %d is an operation: %v", kind, got)
		}
	}
	if basics.IsKind(-1) || basics.IsOperation(-1) || basics.Words(-1) != 0 {
		t.Error("there is no kind -1")
	}
}

func TestWordsOfAWidth(t *testing.T) {
	for _, x := range []struct {
		number, width int
		want          bool
	}{{0, 1, true}, {1, 1, true}, {2, 1, false}, {-1, 1, false}, {255, 8, true}, {256, 8, false}, {0, 0, true}, {1, 0, false}} {
		if got := basics.IsWord(x.number, x.width); got != x.want {
			t.Errorf("%d of %d bits: %v", x.number, x.width, got)
		}
	}
	for width, want := range map[int]bool{-1: false, 0: false, 1: true, 8: true, 9: false} {
		if got := basics.IsWidth(width); got != want {
			t.Errorf("width %d: %v", width, got)
		}
	}
}

func TestHasN(t *testing.T) {
	for kind := -1; kind <= api.Kinds; kind++ {
		if got := basics.HasN(kind); got != (kind == api.KindConst || kind == api.KindCut) {
			t.Errorf("kind %d: %v", kind, got)
		}
	}
}

func TestOfKind(t *testing.T) {
	nodes := []api.Node{{Kind: 2}, {Kind: 3}, {Kind: 2}, {Kind: 99}}
	for kind, want := range map[int][]int{1: nil, 2: {0, 2}, 3: {1}, 99: {3}} {
		if got := basics.OfKind(nodes, kind); !slices.Equal(got, want) {
			t.Errorf("kind %d: %v, want %v", kind, got, want)
		}
	}
}

func TestBits(t *testing.T) {
	nodes := []api.Node{{Kind: 2, Width: 3}, {Kind: 3, Width: 1}, {Kind: 2, Width: 8}}
	for kind, want := range map[int]int{1: 0, 2: 11, 3: 1} {
		if got := basics.Bits(nodes, kind); got != want {
			t.Errorf("kind %d: %d, want %d", kind, got, want)
		}
	}
}
