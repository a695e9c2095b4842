package brief_test

import (
	"slices"
	"testing"

	"latchwork/api"
	"latchwork/brief"
	"latchwork/proof"
	"latchwork/samples"
)

func of(vars int, list ...[]int) api.Clauses { return api.Clauses{Vars: vars, List: list} }

// moved: clauses with each variable by so many greater.
func moved(by int, list [][]int) [][]int {
	var all [][]int
	for _, clause := range list {
		var other []int
		for _, number := range clause {
			if number > 0 {
				other = append(other, number+by)
			} else {
				other = append(other, number-by)
			}
		}
		all = append(all, other)
	}
	return all
}

// proved: how long a proof is that has room, which must pass its check; 0, if there is none.
func proved(t *testing.T, c api.Clauses, room int) int {
	t.Helper()
	p, found := brief.Proof(c, room)
	if !found {
		if p != nil {
			t.Fatalf("%v: no proof, but %v", c, p)
		}
		return 0
	}
	if passes, e := proof.Check(c, p); !passes || e != api.OK || len(p) > room {
		t.Fatalf("%v, room for %d: %v: %v %d", c, room, p, passes, e)
	}
	return len(p)
}

// twice: clauses of which the shortest proof uses {-1, 4} twice; used but once, each takes one clause more.
func twice() api.Clauses {
	return of(4, []int{3, 4, -1}, []int{-4, -2, 3}, []int{-1, 4, -3, -2}, []int{1, 2}, []int{-4, 2, 3}, []int{-4, -2, -1, -3}, []int{-1, -3, 2, 4}, []int{1, -2}, []int{-1, -3, 2, -4})
}

// J1: where it is known how long the shortest proof is: with room for it there is one, with less there is none.
func TestShortest(t *testing.T) {
	four := samples.Corners(2).List
	for i, x := range []struct {
		c    api.Clauses
		want int
	}{
		{of(0, nil), 1},
		{of(2, nil), 1},
		{of(1, []int{1}, []int{-1}), 1},
		{of(3, []int{1}, []int{-1, 2, 2}, []int{-2, 3}, []int{-1, -3}), 1},
		{of(2, four...), 2},
		{of(6, []int{1, 2}, []int{1, -2}, []int{5, 6}, []int{5, -6}, []int{-5, 6}, []int{-5, -6}), 2},
		{of(14, slices.Concat(samples.Corners(3).List, moved(12, four))...), 2},                                    // the shorter one of two
		{of(14, slices.Concat(moved(12, four), samples.Corners(5).List)...), 2},                                    // and behind it
		{of(14, slices.Concat(samples.Corners(4).List, moved(12, four[1:]))...), 8},                                // beside others that can hold
		{of(14, slices.Concat(samples.Pigeons(4).List, [][]int{{13, -1, 14}, {-13, 14}, {-14, -13}})...), 5},       // which hang together
		{of(3, []int{3, -3}, []int{3}, []int{-3, 1, 2}, []int{-3, 1, -2}, []int{-1, -3, 2}, []int{-1, -2, -3}), 2}, // 3 must be
		{of(6, slices.Concat(four, four, four)...), 2},
		{of(4, append(samples.Corners(4).List, []int{1, 2})...), 6},
		{twice(), 3},
		{of(9, slices.Concat([][]int{{9}, {1, 7}}, moved(3, twice().List))...), 3},
		{samples.Pigeons(3), 2},
		{samples.Corners(3), 4},
		{samples.Corners(4), 8},
		{samples.Corners(5), 16},
		{samples.Corners(6), 32},
		{samples.Corners(14), 1 << 13},
	} {
		for _, room := range []int{x.want, x.want + 1, 1 << 13, api.MaxClauses} {
			if got := proved(t, x.c, room); got < x.want || got > room {
				t.Errorf("%d, room for %d: a proof of %d, want %d", i, room, got, x.want)
			}
		}
		if x.want == 5 { // that four are too few is not shown
			continue
		}
		for _, room := range []int{x.want - 1, x.want / 2, 0, -1} {
			if got := proved(t, x.c, room); got != 0 {
				t.Errorf("%d, room for %d: a proof of %d", i, room, got)
			}
		}
	}
}

// J1: pigeons: those who use each clause but once take 6.
func TestPigeons(t *testing.T) {
	if got := proved(t, samples.Pigeons(4), 5); got != 5 {
		t.Errorf("a proof of %d, want 5", got)
	}
}

// What can hold has no proof; neither is one looked for of more variables than there may be.
func TestNoProof(t *testing.T) {
	for i, c := range []api.Clauses{
		of(0), of(14), of(1, []int{1}), of(2, []int{1, -1}, []int{2, -2}),
		of(2, samples.Corners(2).List[1:]...),
		of(14, samples.Corners(14).List[1:]...),
		of(15, samples.Corners(2).List...),
		of(api.MaxVars, nil),
	} {
		if got := proved(t, c, api.MaxClauses); got != 0 {
			t.Errorf("%d: a proof of %d", i, got)
		}
	}
}

// isProved by so many clauses at most? All rows of clauses are gone through.
func isProved(c api.Clauses, room int, rows [][]int, row [][]int) bool {
	if passes, _ := proof.Check(c, append(row, nil)); passes {
		return true
	}
	for _, clause := range rows {
		if room > 1 && isProved(c, room-1, rows, append(row, clause)) {
			return true
		}
	}
	return false
}

// rowsOf so many variables: all clauses that have some of them, each once.
func rowsOf(vars int) [][]int {
	rows := [][]int{nil}
	for variable := 1; variable <= vars; variable++ {
		for _, row := range slices.Clone(rows) {
			rows = append(rows, append(slices.Clone(row), variable), append(slices.Clone(row), -variable))
		}
	}
	return rows[1:]
}

// J1: drawn clauses: there is a proof just if one is found among all.
func TestShortestOfDrawn(t *testing.T) {
	d := new(samples.Draw)
	told := map[bool]int{}
	for range 100 {
		vars := 2 + d.Below(3)
		c := d.Clauses(vars, 4*vars+d.Below(8), 2, 4)
		for room := 1; room <= 3; room++ {
			want := isProved(c, room, rowsOf(vars), nil)
			told[want]++
			if got := proved(t, c, room) > 0; got != want {
				t.Fatalf("%v, room for %d: %v, want %v", c, room, got, want)
			}
		}
	}
	if told[true] < 30 || told[false] < 30 {
		t.Errorf("told: %v", told)
	}
}

// J1: drawn clauses, of up to 14 variables: there is a proof just if they can't hold, and none is longer than it may be; also where there is room for no more than that, or for half.
func TestDrawn(t *testing.T) {
	d := new(samples.Draw)
	told := map[bool]int{}
	for range 400 {
		vars := 1 + d.Below(9)
		if told[true]%50 == 49 {
			vars = 14
		}
		c := d.Clauses(vars, vars*(2+d.Below(9)), 1+d.Below(3), 4)
		most := 1 << (vars - 1)
		want := !samples.CanHold(c)
		told[want]++
		length := proved(t, c, most)
		if length > 0 != want {
			t.Fatalf("%v: a proof of %d, want %v", c, length, want)
		}
		if again := proved(t, c, length); again != length {
			t.Fatalf("%v: a proof of %d, and then of %d", c, length, again)
		}
		if got := proved(t, c, length/2); got > length/2 {
			t.Fatalf("%v: a proof of %d, room for %d", c, got, length/2)
		}
	}
	if told[true] < 100 || told[false] < 100 {
		t.Errorf("told: %v", told)
	}
}

// P2, P3: what is handed in stays; what comes out is new, shares nothing, and is the same each time.
func TestProofAndMemory(t *testing.T) {
	for _, c := range []api.Clauses{samples.Corners(5), samples.Pigeons(4), twice()} {
		list, stayed := samples.RoomyList(c.List)
		p, _ := brief.Proof(api.Clauses{Vars: c.Vars, List: list}, 16)
		q, _ := brief.Proof(api.Clauses{Vars: c.Vars, List: list}, 16)
		for i := range p {
			if !slices.EqualFunc(p[i:], q[i:], slices.Equal[[]int]) {
				t.Fatalf("%v, and then %v", p[i:], q[i:])
			}
			clear(p[i][:cap(p[i])])
		}
		if !stayed() {
			t.Error("what was handed in is changed")
		}
	}
}
