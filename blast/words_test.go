package blast_test

import (
	"testing"

	"latchwork/api"
	"latchwork/blast"
	"latchwork/word"
)

// tries is how many tries of the Ins one number holds, a bit for each.
const tries = 64

// patterns: the lowest six bits of the numbers from 0 to 63, as those of tries.
func patterns() [6]uint64 {
	var rows [6]uint64
	for try := range tries {
		for bit := range rows {
			rows[bit] |= uint64(try>>bit&1) << try
		}
	}
	return rows
}

// tell what some literals are, by all that the Ins may be: of try n, In i is bit i of n; the answer has the literals as bits.
func tell(g api.Graph, literals []int) []int {
	rows := patterns()
	answers := make([]int, max(tries, 1<<g.Ins))
	nodes := make([]uint64, 1+g.Ins+len(g.Ands))
	is := func(literal int) uint64 { return nodes[literal/2] ^ -uint64(literal%2) }
	for from := 0; from < len(answers); from += tries {
		for i := range g.Ins {
			if nodes[1+i] = -uint64(from >> i & 1); i < len(rows) {
				nodes[1+i] = rows[i]
			}
		}
		for i, pair := range g.Ands {
			nodes[1+g.Ins+i] = is(pair[0]) & is(pair[1])
		}
		for bit, literal := range literals {
			for try := range tries {
				answers[from+try] |= int(is(literal)>>try&1) << bit
			}
		}
	}
	return answers
}

// operated: a model of an operation on two words: the first one's bits are Ins 7 on, the second's Ins 1 to 6 and 15, 16, if the width is 8; what it makes are the Bads.
func operated(kind, width, n int, widths [3]int) api.Model {
	m := api.Model{
		Nodes: []api.Node{
			{Kind: api.KindInput, Width: 6},
			{Kind: api.KindState, Width: 8},
			{Kind: api.KindState, Width: 2},
			{Kind: api.KindJoin, Width: 8, A: 2, B: 0},
			{Kind: api.KindCut, Width: widths[0], A: 1},
			{Kind: api.KindCut, Width: max(1, widths[1]), A: 3},
			{Kind: kind, Width: width, A: 4, N: n},
		},
		Nexts: []api.Pair{{State: 1, Node: 1}, {State: 2, Node: 2}},
	}
	if widths[1] > 0 {
		m.Nodes[6].B = 5
	}
	for bit := range width {
		m.Bads = append(m.Bads, len(m.Nodes))
		m.Nodes = append(m.Nodes, api.Node{Kind: api.KindCut, Width: 1, A: 6, N: bit})
	}
	return m
}

// operates: do the gates of an operation tell what the operation makes, of all words?
func operates(t *testing.T, kind, width, n int, widths [3]int) {
	t.Helper()
	c, e := blast.Blast(operated(kind, width, n, widths))
	if e != api.OK || c.Graph.Ins != 16 {
		t.Fatalf("kind %d, width %d, n %d, of %v: %d, of %d Ins", kind, width, n, widths, e, c.Graph.Ins)
	}
	for try, got := range tell(c.Graph, c.Bads) {
		a := try >> 6 & (1<<widths[0] - 1)
		b := (try>>14<<6 | try&63) & (1<<widths[1] - 1)
		want, e := word.Apply(kind, width, a, b, 0, n, widths)
		if e != api.OK || got != want {
			t.Fatalf("kind %d, width %d, n %d, of %d and %d of %v bits: %d, want %d", kind, width, n, a, b, widths, got, want)
		}
	}
}

// G1: each operation on one or two words of one width, of all words of all widths.
func TestOperationsOfAllWords(t *testing.T) {
	for width := 1; width <= api.MaxWidth; width++ {
		for kind := api.KindNot; kind <= api.KindNeg; kind++ {
			operates(t, kind, width, 0, [3]int{width})
		}
		for kind := api.KindAnd; kind <= api.KindShr; kind++ {
			operates(t, kind, width, 0, [3]int{width, width})
		}
		for kind := api.KindEq; kind <= api.KindSigned; kind++ {
			operates(t, kind, 1, 0, [3]int{width, width})
		}
	}
}

// G1: operations that join, cut and widen, of all words of all widths.
func TestWidthsThatChange(t *testing.T) {
	for from := 1; from <= api.MaxWidth; from++ {
		for width := 1; width <= api.MaxWidth; width++ {
			if width >= from {
				operates(t, api.KindWide, width, 0, [3]int{from})
				operates(t, api.KindSpread, width, 0, [3]int{from})
			}
			if from+width <= api.MaxWidth {
				operates(t, api.KindJoin, from+width, 0, [3]int{from, width})
			}
			for n := 0; n+width <= from; n++ {
				operates(t, api.KindCut, width, n, [3]int{from})
			}
		}
	}
}

// G1: one of two words, by a bit, of all words of all widths up to 5.
func TestChosenWords(t *testing.T) {
	for width := 1; width <= 5; width++ {
		c, e := blast.Blast(api.Model{
			Nodes: []api.Node{
				{Kind: api.KindInput, Width: 1},
				{Kind: api.KindState, Width: width},
				{Kind: api.KindState, Width: width},
				{Kind: api.KindIf, Width: width, A: 0, B: 1, C: 2},
			},
			Nexts: []api.Pair{{State: 1, Node: 3}, {State: 2, Node: 2}},
		})
		if e != api.OK {
			t.Fatalf("width %d: %d", width, e)
		}
		for try, got := range tell(c.Graph, c.Nexts[:width]) {
			b, other := try>>1&(1<<width-1), try>>(1+width)&(1<<width-1)
			if want, _ := word.Apply(api.KindIf, width, try&1, b, other, 0, [3]int{1, width, width}); got != want {
				t.Fatalf("width %d, try %d: %d, want %d", width, try, got, want)
			}
		}
	}
}

// G1: words that meet themselves, and constants: there are fewer Ands then, and the same words.
func TestOperationsOnOneWord(t *testing.T) {
	for kind := api.KindAnd; kind <= api.KindSigned; kind++ {
		width := 5
		if kind >= api.KindEq {
			width = 1
		}
		for n := range 1 << 5 {
			for _, on := range [][2]int{{0, 0}, {0, 1}, {1, 0}, {0, 2}, {2, 0}} {
				m := api.Model{Nodes: []api.Node{
					{Kind: api.KindInput, Width: 5},
					{Kind: api.KindConst, Width: 5, N: n},
					{Kind: api.KindNot, Width: 5, A: 0},
					{Kind: kind, Width: width, A: on[0], B: on[1]},
				}}
				for bit := range width {
					m.Bads = append(m.Bads, len(m.Nodes))
					m.Nodes = append(m.Nodes, api.Node{Kind: api.KindCut, Width: 1, A: 3, N: bit})
				}
				c, e := blast.Blast(m)
				if e != api.OK {
					t.Fatalf("%v: %d", m, e)
				}
				for try, got := range tell(c.Graph, c.Bads)[:1<<5] {
					words := [3]int{try, n, 31 - try}
					want, _ := word.Apply(kind, width, words[on[0]], words[on[1]], 0, 0, [3]int{5, 5})
					if got != want {
						t.Fatalf("kind %d of %d and %d: %d, want %d", kind, words[on[0]], words[on[1]], got, want)
					}
				}
			}
		}
	}
}
