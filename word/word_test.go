package word_test

import (
	"math"
	"testing"

	"latchwork/api"
	"latchwork/word"
)

// operands: how many words each operation has, as api names them.
func operands(kind int) int {
	switch kind {
	case api.KindNot, api.KindNeg, api.KindCut, api.KindWide, api.KindSpread:
		return 1
	case api.KindIf:
		return 3
	}
	return 2
}

func isWidth(width int) bool { return width >= 1 && width <= 8 }

// fits is A2, said once more, clause by clause.
func fits(kind, width, n int, l [3]int) api.Errno {
	if kind < 4 || kind > 23 {
		return api.ErrKind
	}
	if !isWidth(width) {
		return api.ErrRange
	}
	for i := range l {
		if named := i < operands(kind); named && !isWidth(l[i]) || !named && l[i] != 0 {
			return api.ErrRange
		}
	}
	good := n == 0
	switch kind {
	case api.KindNot, api.KindNeg:
		good = good && l[0] == width
	case api.KindEq, api.KindLess, api.KindSigned:
		good = good && l[0] == l[1] && width == 1
	case api.KindIf:
		good = good && l == [3]int{1, width, width}
	case api.KindJoin:
		good = good && l[0]+l[1] == width
	case api.KindCut:
		good = n >= 0 && n <= 8 && n+width <= l[0]
	case api.KindWide, api.KindSpread:
		good = good && width >= l[0]
	default:
		good = good && l == [3]int{width, width, 0}
	}
	if !good {
		return api.ErrForm
	}
	return api.OK
}

var someNumbers = []int{math.MinInt, -1, 0, 1, 2, 4, 15, 16, 255, 256, math.MaxInt}

// A2, P1: all small widths, and wild ones.
func TestFitAsksForWidths(t *testing.T) {
	widths := []int{-1, 0, 1, 2, 3, 4, 7, 8, 9, math.MaxInt}
	fitting := 0
	for kind := -2; kind <= 26; kind++ {
		for _, width := range widths {
			for _, a := range widths {
				for _, b := range widths {
					for _, c := range widths {
						for _, n := range []int{-1, 0, 1, 3, 7, math.MaxInt} {
							l := [3]int{a, b, c}
							want := fits(kind, width, n, l)
							if want == api.OK {
								fitting++
							}
							if got := word.Fit(kind, width, n, l); got != want {
								t.Fatalf("Fit(%d, %d, %d, %v): %d, want %d", kind, width, n, l, got, want)
							}
						}
					}
				}
			}
		}
	}
	if fitting < 150 {
		t.Errorf("just %d fit", fitting)
	}
}

// A2: lines by hand, so that the words of the document stand here too.
func TestFitByHand(t *testing.T) {
	for _, x := range []struct {
		kind, width, n int
		l              [3]int
		want           api.Errno
	}{
		{api.KindNot, 8, 0, [3]int{8}, api.OK},
		{api.KindNot, 4, 0, [3]int{3}, api.ErrForm},
		{api.KindNot, 4, 1, [3]int{4}, api.ErrForm},
		{api.KindNot, 4, 0, [3]int{4, 4}, api.ErrRange},
		{api.KindAdd, 4, 0, [3]int{4, 4}, api.OK},
		{api.KindAdd, 4, 0, [3]int{4, 3}, api.ErrForm},
		{api.KindAdd, 4, 0, [3]int{4, 4, 4}, api.ErrRange},
		{api.KindAdd, 9, 0, [3]int{9, 9}, api.ErrRange},
		{api.KindAdd, 9, 5, [3]int{8, 1}, api.ErrRange},
		{api.KindShr, 1, 0, [3]int{1, 1}, api.OK},
		{api.KindEq, 1, 0, [3]int{8, 8}, api.OK},
		{api.KindSigned, 2, 0, [3]int{2, 2}, api.ErrForm},
		{api.KindIf, 8, 0, [3]int{1, 8, 8}, api.OK},
		{api.KindIf, 8, 0, [3]int{8, 8, 8}, api.ErrForm},
		{api.KindIf, 8, 0, [3]int{1, 8, 0}, api.ErrRange},
		{api.KindJoin, 8, 0, [3]int{7, 1}, api.OK},
		{api.KindJoin, 9, 0, [3]int{8, 1}, api.ErrRange},
		{api.KindJoin, 8, 0, [3]int{8, 1}, api.ErrForm},
		{api.KindCut, 2, 2, [3]int{4}, api.OK},
		{api.KindCut, 2, 3, [3]int{4}, api.ErrForm},
		{api.KindCut, 2, -1, [3]int{4}, api.ErrForm},
		{api.KindCut, 2, math.MaxInt, [3]int{4}, api.ErrForm},
		{api.KindWide, 4, 0, [3]int{4}, api.OK},
		{api.KindSpread, 3, 0, [3]int{4}, api.ErrForm},
		{api.KindState, 4, 0, [3]int{}, api.ErrKind},
		{api.Kinds, 0, 9, [3]int{9, 9, 9}, api.ErrKind},
	} {
		if got := word.Fit(x.kind, x.width, x.n, x.l); got != x.want {
			t.Errorf("Fit(%d, %d, %d, %v): %d, want %d", x.kind, x.width, x.n, x.l, got, x.want)
		}
	}
}

func apply(t *testing.T, kind, width, a, b, c, n int, l [3]int) int {
	t.Helper()
	v, e := word.Apply(kind, width, a, b, c, n, l)
	if e != api.OK {
		t.Fatalf("Apply(%d, %d, %d, %d, %d, %d, %v): error %d", kind, width, a, b, c, n, l, e)
	}
	return v
}

// bits of a word, the lowest first.
func bits(v, width int) []int {
	l := make([]int, width)
	for i := range l {
		l[i], v = v%2, v/2
	}
	return l
}

func number(l []int) int {
	v := 0
	for i := len(l) - 1; i >= 0; i-- {
		v = 2*v + l[i]
	}
	return v
}

func bitwise(a, b, width int, of func(x, y int) int) int {
	l, r := bits(a, width), bits(b, width)
	for i := range l {
		l[i] = of(l[i], r[i])
	}
	return number(l)
}

func times(n, v int, do func(int) int) int {
	for range n {
		v = do(v)
	}
	return v
}

func howOften(a, b int) int {
	n := 0
	for ; a >= b; a -= b {
		n++
	}
	return n
}

func truth(b bool) int {
	if b {
		return 1
	}
	return 0
}

// opposed: the number of a word whose upmost bit counts as its opposite.
func opposed(a, width int) int {
	l := bits(a, width)
	return number(l[:width-1]) - l[width-1]*times(width-1, 1, func(v int) int { return 2 * v })
}

// made is A3, by other means than Go's own operations on bits; for operations of words of one width.
func made(kind, width, a, b int) int {
	size := times(width, 1, func(v int) int { return 2 * v })
	switch kind {
	case api.KindNot:
		return size - 1 - a
	case api.KindNeg:
		return (size - a) % size
	case api.KindAnd:
		return bitwise(a, b, width, func(x, y int) int { return x * y })
	case api.KindOr:
		return bitwise(a, b, width, func(x, y int) int { return max(x, y) })
	case api.KindXor:
		return bitwise(a, b, width, func(x, y int) int { return (x + y) % 2 })
	case api.KindAdd:
		return (a + b) % size
	case api.KindSub:
		return (a + size - b) % size
	case api.KindMul:
		return a * b % size
	case api.KindDiv:
		if b == 0 {
			return size - 1
		}
		return howOften(a, b)
	case api.KindRem:
		if b == 0 {
			return a
		}
		return a - b*howOften(a, b)
	case api.KindShl:
		return times(b, a, func(v int) int { return 2 * v % size })
	case api.KindShr:
		return times(b, a, func(v int) int { return v / 2 })
	case api.KindEq:
		return truth(a == b)
	case api.KindLess:
		return truth(a < b)
	}
	return truth(opposed(a, width) < opposed(b, width))
}

// A1, A3: all words of all widths.
func TestApplyToWordsOfOneWidth(t *testing.T) {
	for kind := api.KindNot; kind <= api.KindSigned; kind++ {
		for width := 1; width <= api.MaxWidth; width++ {
			own, l, bs := width, [3]int{width, width}, 1<<width
			if kind >= api.KindEq {
				own = 1
			}
			if kind <= api.KindNeg {
				l, bs = [3]int{width}, 1
			}
			for a := range 1 << width {
				for b := range bs {
					if got, want := apply(t, kind, own, a, b, 0, 0, l), made(kind, width, a, b); got != want {
						t.Fatalf("kind %d, width %d, of %d and %d: %d, want %d", kind, width, a, b, got, want)
					}
				}
			}
		}
	}
}

// A3: KindIf, KindJoin.
func TestApplyIfAndJoin(t *testing.T) {
	for width := 1; width <= api.MaxWidth; width++ {
		for v := range 1 << width {
			other := 1<<width - 1 - v
			l := [3]int{1, width, width}
			if got := apply(t, api.KindIf, width, 1, v, other, 0, l); got != v {
				t.Errorf("if 1, of %d: %d", v, got)
			}
			if got := apply(t, api.KindIf, width, 0, v, other, 0, l); got != other {
				t.Errorf("if 0, of %d: %d", other, got)
			}
			for low := 1; low < width; low++ {
				a, b := number(bits(v, width)[low:]), number(bits(v, width)[:low])
				if got := apply(t, api.KindJoin, width, a, b, 0, 0, [3]int{width - low, low}); got != v {
					t.Errorf("%d and %d joined, %d bits below: %d, want %d", a, b, low, got, v)
				}
			}
		}
	}
}

// A3: KindCut, KindWide, KindSpread.
func TestApplyCutWideSpread(t *testing.T) {
	for from := 1; from <= api.MaxWidth; from++ {
		for a := range 1 << from {
			l := [3]int{from}
			for n := range from {
				for width := 1; n+width <= from; width++ {
					want := number(bits(a, from)[n : n+width])
					if got := apply(t, api.KindCut, width, a, 0, 0, n, l); got != want {
						t.Errorf("%d bits of %d from %d on: %d, want %d", width, a, n, got, want)
					}
				}
			}
			for width := from; width <= api.MaxWidth; width++ {
				if got := apply(t, api.KindWide, width, a, 0, 0, 0, l); got != a {
					t.Errorf("%d wide: %d", a, got)
				}
				spread := bits(a, from)
				for len(spread) < width {
					spread = append(spread, spread[from-1])
				}
				if got := apply(t, api.KindSpread, width, a, 0, 0, 0, l); got != number(spread) {
					t.Errorf("%d of %d bits spread to %d: %d, want %d", a, from, width, got, number(spread))
				}
			}
		}
	}
}

// A3: lines by hand.
func TestApplyByHand(t *testing.T) {
	for _, x := range []struct{ kind, width, a, b, c, n, la, lb, lc, want int }{
		{api.KindAdd, 4, 9, 9, 0, 0, 4, 4, 0, 2}, // the document's first example
		{api.KindNot, 8, 0, 0, 0, 0, 8, 0, 0, 255},
		{api.KindNeg, 8, 128, 0, 0, 0, 8, 0, 0, 128},
		{api.KindSub, 8, 0, 1, 0, 0, 8, 8, 0, 255},
		{api.KindMul, 8, 255, 255, 0, 0, 8, 8, 0, 1},
		{api.KindDiv, 3, 5, 0, 0, 0, 3, 3, 0, 7},
		{api.KindRem, 3, 5, 0, 0, 0, 3, 3, 0, 5},
		{api.KindShl, 4, 1, 3, 0, 0, 4, 4, 0, 8},
		{api.KindShl, 4, 1, 4, 0, 0, 4, 4, 0, 0},
		{api.KindShl, 8, 255, 255, 0, 0, 8, 8, 0, 0},
		{api.KindShr, 8, 255, 7, 0, 0, 8, 8, 0, 1},
		{api.KindShr, 8, 255, 8, 0, 0, 8, 8, 0, 0},
		{api.KindShr, 1, 1, 1, 0, 0, 1, 1, 0, 0},
		{api.KindSigned, 1, 1, 0, 0, 0, 1, 1, 0, 1},
		{api.KindSigned, 1, 127, 128, 0, 0, 8, 8, 0, 0},
		{api.KindLess, 1, 127, 128, 0, 0, 8, 8, 0, 1},
		{api.KindIf, 8, 1, 255, 3, 0, 1, 8, 8, 255},
		{api.KindJoin, 8, 1, 2, 0, 0, 1, 7, 0, 130},
		{api.KindCut, 1, 128, 0, 0, 7, 8, 0, 0, 1},
		{api.KindSpread, 8, 1, 0, 0, 0, 1, 0, 0, 255},
	} {
		if got := apply(t, x.kind, x.width, x.a, x.b, x.c, x.n, [3]int{x.la, x.lb, x.lc}); got != x.want {
			t.Errorf("%+v: %d", x, got)
		}
	}
}

// A1, A3, P1: what is no word, what is not named, and what does not fit, of each kind; nothing is told with an error.
func TestApplyRefuses(t *testing.T) {
	lists := [][3]int{{}, {4}, {4, 4}, {1, 4, 4}, {2, 2}, {8, 8}, {1, 1, 1}, {4, 4, 4}, {-1, 9, math.MaxInt}}
	for kind := -1; kind <= 25; kind++ {
		for _, width := range []int{-1, 0, 1, 2, 4, 8, 9} {
			for _, l := range lists {
				for _, a := range someNumbers {
					for _, b := range someNumbers {
						for _, c := range someNumbers {
							refuse(t, kind, width, a, b, c, l)
						}
					}
				}
			}
		}
	}
}

func refuse(t *testing.T, kind, width, a, b, c int, l [3]int) {
	t.Helper()
	want := fits(kind, width, 0, l)
	if want == api.OK {
		for i, v := range [3]int{a, b, c} {
			if v < 0 || v > 255 || v >= 1<<l[i] { // not named: of 0 bits
				want = api.ErrRange
			}
		}
	}
	v, e := word.Apply(kind, width, a, b, c, 0, l)
	if e != want || e != api.OK && v != 0 || e == api.OK && (v < 0 || v >= 1<<width) {
		t.Fatalf("Apply(%d, %d, %d, %d, %d, 0, %v): %d %d, want %d", kind, width, a, b, c, l, v, e, want)
	}
}

// A3: what Fit says comes ahead of words that are none.
func TestApplyTellsFitFirst(t *testing.T) {
	for _, x := range []struct {
		kind, width, n int
		l              [3]int
		want           api.Errno
	}{
		{3, 4, 0, [3]int{4, 4}, api.ErrKind},
		{api.KindAdd, 4, 0, [3]int{4, 3}, api.ErrForm},
		{api.KindAdd, 4, 1, [3]int{4, 4}, api.ErrForm},
		{api.KindCut, 2, 3, [3]int{4}, api.ErrForm},
		{api.KindAdd, 4, 0, [3]int{4, 4}, api.ErrRange},
	} {
		if v, e := word.Apply(x.kind, x.width, 999, -1, 7, x.n, x.l); v != 0 || e != x.want {
			t.Errorf("%+v: %d %d", x, v, e)
		}
	}
}

// A4: the laws, of all words of all widths.
func TestLaws(t *testing.T) {
	for width := 1; width <= api.MaxWidth; width++ {
		l := [3]int{width, width}
		for a := range 1 << width {
			for b := range 1 << width {
				sum := apply(t, api.KindAdd, width, a, b, 0, 0, l)
				if got := apply(t, api.KindSub, width, sum, b, 0, 0, l); got != a {
					t.Fatalf("%d and %d less the second: %d", a, b, got)
				}
				if b == 0 {
					continue
				}
				often := apply(t, api.KindDiv, width, a, b, 0, 0, l)
				left := apply(t, api.KindRem, width, a, b, 0, 0, l)
				back := apply(t, api.KindMul, width, often, b, 0, 0, l)
				if got := apply(t, api.KindAdd, width, back, left, 0, 0, l); got != a || left >= b {
					t.Fatalf("%d by %d: %d, and %d are left", a, b, often, left)
				}
			}
		}
	}
}

// A4: what is cut from what was joined.
func TestCutOfJoined(t *testing.T) {
	for high := 1; high < api.MaxWidth; high++ {
		for low := 1; high+low <= api.MaxWidth; low++ {
			for a := range 1 << high {
				for b := range 1 << low {
					width := high + low
					both := apply(t, api.KindJoin, width, a, b, 0, 0, [3]int{high, low})
					up := apply(t, api.KindCut, high, both, 0, 0, low, [3]int{width})
					down := apply(t, api.KindCut, low, both, 0, 0, 0, [3]int{width})
					if up != a || down != b {
						t.Fatalf("%d and %d joined, cut: %d and %d", a, b, up, down)
					}
				}
			}
		}
	}
}

// P3: the same once more, whatever was asked in between.
func TestSameEachTime(t *testing.T) {
	type answer struct {
		v    int
		e, f api.Errno
	}
	ask := func(kind, a int) answer {
		v, e := word.Apply(kind, 4, a, 3, 0, 0, [3]int{4, 4})
		return answer{v, e, word.Fit(kind, a, 0, [3]int{4, 4})}
	}
	var first []answer
	for kind := 0; kind <= api.Kinds; kind++ {
		for a := -1; a <= 16; a++ {
			first = append(first, ask(kind, a))
		}
	}
	for kind := api.Kinds; kind >= 0; kind-- {
		for a := 16; a >= -1; a-- {
			last := first[len(first)-1]
			first = first[:len(first)-1]
			if got := ask(kind, a); got != last {
				t.Fatalf("kind %d of %d: %v, then %v", kind, a, last, got)
			}
		}
	}
}
