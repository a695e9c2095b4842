package search_test

import (
	"math"
	"slices"
	"testing"

	"latchwork/api"
	"latchwork/cnf"
	"latchwork/proof"
	"latchwork/samples"
	"latchwork/search"
)

func of(vars int, list ...[]int) api.Clauses { return api.Clauses{Vars: vars, List: list} }

// four clauses of two variables that nothing makes hold.
func four() api.Clauses { return of(2, []int{1, 2}, []int{1, -2}, []int{-1, 2}, []int{-1, -2}) }

// solved: the verdict of a search, whose answer is held to J1 by chapters 8 and 9.
func solved(t *testing.T, c api.Clauses, fuel int) int {
	t.Helper()
	a, e := search.Solve(c, fuel)
	good := false
	switch a.Verdict {
	case api.VerdictYes:
		good = len(a.Values) == c.Vars && samples.Hold(c.List, a.Values) && len(a.Proof) == 0
	case api.VerdictNo:
		passes, f := proof.Check(c, a.Proof)
		good = passes && f == api.OK && len(a.Values) == 0
	case api.VerdictUnknown:
		good = len(a.Values) == 0 && len(a.Proof) == 0
	}
	if !good || e != api.OK {
		t.Fatalf("%d clauses of %d variables: verdict %d, %d values, a proof of %d: %d", len(c.List), c.Vars, a.Verdict, len(a.Values), len(a.Proof), e)
	}
	if is, e := search.Is(c, a); !is || e != api.OK {
		t.Fatalf("%d clauses of %d variables: verdict %d: Is says %v %d", len(c.List), c.Vars, a.Verdict, is, e)
	}
	return a.Verdict
}

// truth: the verdict, by all values.
func truth(c api.Clauses) int {
	if samples.CanHold(c) {
		return api.VerdictYes
	}
	return api.VerdictNo
}

// J1: by hand.
func TestSolveByHand(t *testing.T) {
	for i, x := range []struct {
		c    api.Clauses
		want int
	}{
		{of(0), api.VerdictYes},
		{of(0, nil), api.VerdictNo},
		{of(3), api.VerdictYes},
		{of(3, []int{1, 2}, nil), api.VerdictNo},
		{of(1, []int{1}), api.VerdictYes},
		{of(1, []int{-1}), api.VerdictYes},
		{of(1, []int{1}, []int{-1}), api.VerdictNo},
		{of(1, []int{1, 1}, []int{-1, -1, -1}), api.VerdictNo},
		{of(1, []int{1, -1}), api.VerdictYes},
		{four(), api.VerdictNo},
		{of(2, four().List[:3]...), api.VerdictYes},
		{of(2, four().List[1:]...), api.VerdictYes},
		{of(6, []int{1}, []int{-1, 2}, []int{-2, 3}, []int{-3, 4}, []int{-4, -6}, []int{6, 6, 5}), api.VerdictYes},
		{of(3, append(slices.Repeat([][]int{{3}, {3, -2}}, 20), four().List...)...), api.VerdictNo},
		{of(3, append(slices.Repeat([][]int{{3}, {3, -2}}, 20), four().List[1:]...)...), api.VerdictYes},
		{samples.Pigeons(2), api.VerdictNo},
		{samples.Pigeons(3), api.VerdictNo},
	} {
		for _, fuel := range []int{1000, 1001, api.MaxFuel} {
			if got := solved(t, x.c, fuel); got != x.want {
				t.Errorf("%d, fuel %d: verdict %d, want %d", i, fuel, got, x.want)
			}
		}
		if got := solved(t, x.c, 0); got != x.want && got != api.VerdictUnknown {
			t.Errorf("%d, no fuel: verdict %d, want %d", i, got, x.want)
		}
	}
}

// J1: few variables, all kinds of clauses: the verdict is what all values say, with a fuel of 1000.
func TestSolveFewVariables(t *testing.T) {
	d := new(samples.Draw)
	told := map[int]int{}
	for range 6000 {
		longest := 1 + d.Below(5)
		c := d.Clauses(1+d.Below(6), d.Below(12*longest), d.Below(longest+1), longest)
		want := truth(c)
		told[want]++
		if got := solved(t, c, 1000); got != want {
			t.Fatalf("%v: verdict %d, want %d", c, got, want)
		}
	}
	if told[api.VerdictYes] < 1000 || told[api.VerdictNo] < 1000 {
		t.Errorf("told: %v", told)
	}
}

// J1: up to 14 variables, and all the fuel there is; about as many clauses as make it hard.
func TestSolveSomeVariables(t *testing.T) {
	d := new(samples.Draw)
	told := map[int]int{}
	for range 300 {
		vars := 7 + d.Below(8)
		numbers := 3 + d.Below(4)
		c := d.Clauses(vars, vars*(4<<(numbers-3))*(4+d.Below(4))/4, numbers, numbers)
		want := truth(c)
		told[want]++
		if got := solved(t, c, api.MaxFuel); got != want {
			t.Fatalf("%v: verdict %d, want %d", c, got, want)
		}
	}
	if told[api.VerdictYes] < 50 || told[api.VerdictNo] < 50 {
		t.Errorf("told: %v", told)
	}
}

// J1: what takes the longest: each of all values is excluded by a clause of its own; and with one of them left.
func TestSolveCorners(t *testing.T) {
	for _, vars := range []int{0, 1, 2, 3, 4, 5, 6, 7, 9, 14} {
		fuel := api.MaxFuel
		if vars <= 6 {
			fuel = 1000
		}
		c := samples.Corners(vars)
		if got := solved(t, c, fuel); got != api.VerdictNo {
			t.Errorf("%d variables: verdict %d", vars, got)
		}
		at := len(c.List) * 2 / 3
		c.List = slices.Delete(c.List, at, at+1)
		if got := solved(t, c, fuel); got != api.VerdictYes {
			t.Errorf("%d variables, one left: verdict %d", vars, got)
		}
	}
}

// J1: neither does it take too long because all clauses stand there many times.
func TestSolveManyCopies(t *testing.T) {
	for _, x := range []struct{ vars, copies, fuel int }{{6, 2000, 1000}, {14, 5, api.MaxFuel}} {
		c := samples.Corners(x.vars)
		c.List = slices.Repeat(c.List, x.copies)
		if a, e := search.Solve(c, x.fuel); a.Verdict != api.VerdictNo || e != api.OK {
			t.Errorf("%d variables: verdict %d, %d", x.vars, a.Verdict, e)
		}
	}
}

// J1: more variables: whatever the fuel, an answer is one that is checked; and no verdict is the opposite of another's.
func TestSolveManyVariables(t *testing.T) {
	d := new(samples.Draw)
	told := map[int]int{}
	for range 60 {
		vars := 15 + d.Below(90)
		c := d.Clauses(vars, vars*(35+d.Below(20))/10, 3, 3)
		known := 0
		for _, fuel := range []int{0, 1, 10, 100, api.MaxFuel} {
			got := solved(t, c, fuel)
			told[got]++
			if got == api.VerdictUnknown {
				continue
			}
			if known != 0 && got != known {
				t.Fatalf("%v: verdicts %d and %d", c, known, got)
			}
			known = got
		}
		if known == 0 {
			t.Errorf("%d clauses of %d variables: unknown with all fuel", len(c.List), vars)
		}
	}
	if told[api.VerdictYes] < 30 || told[api.VerdictNo] < 30 || told[api.VerdictUnknown] == 0 {
		t.Errorf("told: %v", told)
	}
}

// J1: pigeons; so many that it takes too long without much fuel.
func TestSolvePigeons(t *testing.T) {
	for n := 2; n <= 7; n++ {
		c := samples.Pigeons(n)
		if got := solved(t, c, api.MaxFuel); got != api.VerdictNo {
			t.Errorf("%d pigeons: verdict %d", n, got)
		}
		c.List = c.List[:len(c.List)-1]
		if got := solved(t, c, api.MaxFuel); got != api.VerdictYes {
			t.Errorf("%d pigeons, one at large: verdict %d", n, got)
		}
	}
	for _, fuel := range []int{0, 1, 1000} {
		if got := solved(t, samples.Pigeons(20), fuel); got != api.VerdictUnknown {
			t.Errorf("20 pigeons, fuel %d: verdict %d", fuel, got)
		}
	}
}

// J1, P1: as many variables, and clauses, as there may be. With as many clauses as there may be no proof passes its check: nothing has room beside them.
func TestSolveAtTheBounds(t *testing.T) {
	full := func(first ...[]int) api.Clauses {
		return api.Clauses{Vars: 14, List: slices.Concat(first, slices.Repeat([][]int{{13, -14}}, api.MaxClauses-len(first)))}
	}
	for i, x := range []struct {
		c    api.Clauses
		want int
	}{
		{of(api.MaxVars), api.VerdictYes},
		{of(api.MaxVars, []int{-api.MaxVars}, []int{1, api.MaxVars}, []int{-1, 2}), api.VerdictYes},
		{of(api.MaxVars, []int{-api.MaxVars}, []int{api.MaxVars}), api.VerdictNo},
		{of(2, slices.Repeat([]int{2}, api.MaxClause), slices.Repeat([]int{-2}, api.MaxClause)), api.VerdictNo},
		{full(), api.VerdictYes},
		{full(four().List[:3]...), api.VerdictYes},
		{full(samples.Corners(3).List[1:]...), api.VerdictYes}, // there is no room for a proof, but none is asked for
		{full(four().List...), api.VerdictUnknown},
		{full(nil, nil), api.VerdictUnknown},
	} {
		if got := solved(t, x.c, api.MaxFuel); got != x.want {
			t.Errorf("%d: verdict %d, want %d", i, got, x.want)
		}
	}
	c := full(four().List...)
	for drop, want := range []int{api.VerdictUnknown, api.VerdictUnknown, api.VerdictNo, api.VerdictNo} {
		if got := solved(t, api.Clauses{Vars: 14, List: c.List[:api.MaxClauses-drop]}, api.MaxFuel); got != want {
			t.Errorf("room for %d: verdict %d, want %d", drop, got, want)
		}
	}
	c.List[0] = nil
	if got := solved(t, api.Clauses{Vars: 14, List: c.List[1:]}, api.MaxFuel); got != api.VerdictYes {
		t.Errorf("three of four: verdict %d", got)
	}
	if got := solved(t, api.Clauses{Vars: 14, List: c.List[:api.MaxClauses-1]}, 1000); got != api.VerdictNo {
		t.Errorf("an empty one: verdict %d", got)
	}
}

// crammed: clauses among which the first one stands so many times that there is room for a proof of so many beside them.
func crammed(vars, room int, list [][]int) api.Clauses {
	return of(vars, append(slices.Repeat(list[:1], api.MaxClauses-room-len(list)), list...)...)
}

// J1: where there is little room beside the clauses, that of few variables can't hold is told, if a proof has room, and else it is unknown.
func TestSolveWithLittleRoom(t *testing.T) {
	beside := func(list, other [][]int) [][]int { return slices.Concat(list, other) }
	fourOf := func(a, b int) [][]int { return [][]int{{a, b}, {a, -b}, {-a, b}, {-a, -b}} }
	for i, x := range []struct {
		vars, fuel int
		list       [][]int
		shortest   int
	}{
		{6, 1000, beside([][]int{{1, 2}, {1, -2}}, fourOf(5, 6)), 2}, // what is learnt of the first two is of no use
		{6, 1000, beside(samples.Corners(4).List, fourOf(5, 6)), 2},  // neither is that by which the first ones can't hold
		{6, 1000, beside([][]int{{5}, {-6}}, samples.Corners(4).List), 8},
		{6, 1000, [][]int{{3, 4, -1}, {-4, -2, 3}, {-1, 4, -3, -2}, {1, 2}, {-4, 2, 3}, {-4, -2, -1, -3}, {-1, -3, 2, 4}, {1, -2}, {-1, -3, 2, -4}}, 3}, // one clause of it is used twice
		{6, 1000, samples.Corners(6).List, 32},
		{14, api.MaxFuel, beside(samples.Pigeons(4).List, fourOf(13, 14)), 2},
	} {
		for room, want := range map[int]int{x.shortest: api.VerdictNo, x.shortest - 1: api.VerdictUnknown} {
			c := crammed(x.vars, room, x.list)
			a, e := search.Solve(c, x.fuel)
			if a.Verdict != want || e != api.OK {
				t.Errorf("%d, room for %d: verdict %d, %d, want %d", i, room, a.Verdict, e, want)
				continue
			}
			if is, e := search.Is(c, a); !is || e != api.OK {
				t.Errorf("%d, room for %d: Is says %v %d", i, room, is, e)
			}
		}
	}
	// Of pigeons a proof of five is known: each that uses no clause twice takes six.
	if got := solved(t, crammed(12, 5, samples.Pigeons(4).List), api.MaxFuel); got != api.VerdictNo {
		t.Errorf("pigeons: verdict %d", got)
	}
}

// wide clauses: two of 192 numbers, that fail together by others which are hundreds.
func wide() [][]int {
	first, second := []int{401, 402}, []int{401, -402}
	for n := 1; n <= 190; n++ {
		first, second = append(first, n), append(second, 200+n)
	}
	return [][]int{first, second}
}

// J1: what is learnt of clauses may be longer than a clause of a proof may be.
func TestSolveLongLessons(t *testing.T) {
	c := of(402, wide()...)
	if got := solved(t, c, api.MaxFuel); got != api.VerdictYes {
		t.Errorf("wide ones: verdict %d", got)
	}
	for _, clause := range wide() {
		clause[0] = -401
		c.List = append(c.List, clause)
	}
	if got := solved(t, c, api.MaxFuel); got != api.VerdictYes {
		t.Errorf("four wide ones: verdict %d", got)
	}
	// None of the many may be so, which is not seen at once.
	c.Vars = 802
	for n := 1; n <= 400; n++ {
		c.List = append(c.List, []int{-n, 402 + n}, []int{-n, -402 - n})
	}
	if got := solved(t, c, api.MaxFuel); got != api.VerdictNo {
		t.Errorf("narrow ones too: verdict %d", got)
	}
}

// J1, P1: what is learnt hangs on as many steps, one by another, as there may be.
func TestSolveLongChain(t *testing.T) {
	c := api.Clauses{Vars: api.MaxVars}
	end := c.Vars - 2
	for n := 1; n < end; n++ {
		c.List = append(c.List, []int{n, -n - 1})
	}
	c.List = append(c.List, []int{end, end + 1, end + 2}, []int{end, end + 1, -end - 2})
	if got := solved(t, c, api.MaxFuel); got != api.VerdictYes {
		t.Errorf("a long chain: verdict %d", got)
	}
	c.List = append(c.List, []int{end, -end - 1})
	if got := solved(t, c, api.MaxFuel); got != api.VerdictYes {
		t.Errorf("a chain that must be: verdict %d", got)
	}
	c.List = append(c.List, []int{-1, -end})
	if got := solved(t, c, api.MaxFuel); got != api.VerdictNo {
		t.Errorf("a chain that can't be: verdict %d", got)
	}
}

// J1, P1: the errors, and nothing else with them.
func TestSolveRefuses(t *testing.T) {
	for i, x := range []struct {
		c    api.Clauses
		fuel int
		want api.Errno
	}{
		{of(-1), 1000, api.ErrRange},
		{of(api.MaxVars+1, []int{0}), 1000, api.ErrRange},
		{api.Clauses{Vars: 1, List: make([][]int, api.MaxClauses+1)}, -1, api.ErrMany},
		{of(1, make([]int, api.MaxClause+1)), -1, api.ErrMany},
		{of(1, []int{1}, []int{2}), -1, api.ErrNone},
		{of(1, []int{0}), api.MaxFuel + 1, api.ErrNone},
		{of(1, []int{math.MinInt}), 0, api.ErrNone},
		{of(1, []int{1}), -1, api.ErrRange},
		{of(1, nil), api.MaxFuel + 1, api.ErrRange},
		{of(0), math.MinInt, api.ErrRange},
		{of(0), math.MaxInt, api.ErrRange},
	} {
		if a, e := search.Solve(x.c, x.fuel); e != x.want || a.Verdict != 0 || len(a.Values) > 0 || len(a.Proof) > 0 {
			t.Errorf("%d: %v %d, want %d", i, a, e, x.want)
		}
	}
}

// J2: by hand.
func TestIsByHand(t *testing.T) {
	no, yes := false, true
	empty := [][]int{nil}
	three := of(2, four().List[:3]...)
	for i, x := range []struct {
		c    api.Clauses
		a    api.Answer
		want bool
	}{
		{of(0), api.Answer{Verdict: api.VerdictYes}, true},
		{of(0), api.Answer{Verdict: api.VerdictYes, Values: []bool{no}}, false},
		{of(0), api.Answer{Verdict: api.VerdictNo, Proof: empty}, false},
		{of(0, nil), api.Answer{Verdict: api.VerdictYes}, false},
		{of(0, nil), api.Answer{Verdict: api.VerdictNo, Proof: empty}, true},
		{of(0, nil), api.Answer{Verdict: api.VerdictNo}, false},
		{of(1, nil), api.Answer{Verdict: api.VerdictNo, Proof: empty, Values: []bool{no}}, false},
		{three, api.Answer{Verdict: api.VerdictYes, Values: []bool{yes, yes}}, true},
		{three, api.Answer{Verdict: api.VerdictYes, Values: []bool{yes, yes}, Proof: [][]int{}}, true},
		{three, api.Answer{Verdict: api.VerdictYes, Values: []bool{yes, yes}, Proof: empty}, false},
		{three, api.Answer{Verdict: api.VerdictYes, Values: []bool{yes, no}}, false},
		{three, api.Answer{Verdict: api.VerdictYes, Values: []bool{yes}}, false},
		{three, api.Answer{Verdict: api.VerdictYes, Values: []bool{yes, yes, yes}}, false},
		{three, api.Answer{Verdict: api.VerdictYes}, false},
		{three, api.Answer{Verdict: api.VerdictNo, Proof: [][]int{{1}, nil}}, false},
		{four(), api.Answer{Verdict: api.VerdictNo, Proof: [][]int{{1}, nil}}, true},
		{four(), api.Answer{Verdict: api.VerdictNo, Proof: [][]int{{1}, nil}, Values: []bool{}}, true},
		{four(), api.Answer{Verdict: api.VerdictNo, Proof: [][]int{{1}, nil}, Values: []bool{yes, yes}}, false},
		{four(), api.Answer{Verdict: api.VerdictNo, Proof: [][]int{{1}}}, false},
		{four(), api.Answer{Verdict: api.VerdictNo, Proof: empty}, false},
		{four(), api.Answer{Verdict: api.VerdictNo, Proof: [][]int{{1}, {3}, nil}}, false},
		{four(), api.Answer{Verdict: api.VerdictNo, Proof: [][]int{{1}, nil, {0}}}, false},
		{four(), api.Answer{Verdict: api.VerdictNo, Proof: [][]int{{1}, nil, make([]int, api.MaxClause+1)}}, false},
		{four(), api.Answer{Verdict: api.VerdictUnknown}, true},
		{four(), api.Answer{Verdict: api.VerdictUnknown, Values: []bool{}, Proof: [][]int{}}, true},
		{four(), api.Answer{Verdict: api.VerdictUnknown, Values: []bool{no}}, false},
		{four(), api.Answer{Verdict: api.VerdictUnknown, Proof: [][]int{{1}, nil}}, false},
		{api.Clauses{List: make([][]int, api.MaxClauses)}, api.Answer{Verdict: api.VerdictNo, Proof: empty}, false},
		{api.Clauses{List: make([][]int, api.MaxClauses-1)}, api.Answer{Verdict: api.VerdictNo, Proof: empty}, true},
	} {
		if got, e := search.Is(x.c, x.a); got != x.want || e != api.OK {
			t.Errorf("%d: %v %d, want %v", i, got, e, x.want)
		}
	}
}

// J2, P1: the errors; what an answer has besides does not matter then.
func TestIsRefuses(t *testing.T) {
	for i, x := range []struct {
		c    api.Clauses
		a    api.Answer
		want api.Errno
	}{
		{of(-1), api.Answer{}, api.ErrRange},
		{api.Clauses{Vars: 1, List: make([][]int, api.MaxClauses+1)}, api.Answer{Verdict: 9}, api.ErrMany},
		{of(1, make([]int, api.MaxClause+1)), api.Answer{Verdict: api.VerdictUnknown}, api.ErrMany},
		{of(1, []int{2}), api.Answer{}, api.ErrNone},
		{of(1, []int{0}), api.Answer{Verdict: api.VerdictYes, Values: []bool{true}}, api.ErrNone},
		{of(1, []int{1}), api.Answer{}, api.ErrKind},
		{of(1, []int{1}), api.Answer{Verdict: 4}, api.ErrKind},
		{of(1, []int{1}), api.Answer{Verdict: -1, Values: []bool{true}}, api.ErrKind},
		{of(1, nil), api.Answer{Verdict: math.MinInt, Proof: [][]int{nil}}, api.ErrKind},
		{of(0), api.Answer{Verdict: math.MaxInt}, api.ErrKind},
	} {
		if got, e := search.Is(x.c, x.a); got || e != x.want {
			t.Errorf("%d: %v %d, want %d", i, got, e, x.want)
		}
	}
}

// P2: what is handed in stays, spare room too; an answer is new memory, and no two clauses of a proof share any.
func TestSearchesAndMemory(t *testing.T) {
	list, stayed := samples.RoomyList(samples.Pigeons(5).List)
	c := api.Clauses{Vars: 20, List: list}
	a, _ := search.Solve(c, api.MaxFuel)
	b, _ := search.Solve(api.Clauses{Vars: 20, List: list[:9]}, api.MaxFuel)
	if a.Verdict != api.VerdictNo || b.Verdict != api.VerdictYes {
		t.Fatalf("verdicts %d and %d", a.Verdict, b.Verdict)
	}
	given, proofStayed := samples.RoomyList(a.Proof)
	for range 2 {
		if is, e := search.Is(c, api.Answer{Verdict: api.VerdictNo, Proof: given}); !is || e != api.OK {
			t.Errorf("%v %d", is, e)
		}
	}
	if !stayed() || !proofStayed() {
		t.Error("what was handed in is changed")
	}
	for i := range a.Proof {
		clear(a.Proof[i][:cap(a.Proof[i])])
		for k := i + 1; k < len(a.Proof); k++ {
			if !slices.Equal(a.Proof[k], given[k]) {
				t.Fatalf("clauses %d and %d share memory", i, k)
			}
		}
	}
	if !stayed() {
		t.Error("a proof shares memory with the clauses")
	}
}

// P3: the same each time, also where it is free.
func TestSearchesAreTheSame(t *testing.T) {
	d := new(samples.Draw)
	for range 30 {
		c := d.Clauses(40, 120+d.Below(80), 2, 4)
		for _, fuel := range []int{3, api.MaxFuel} {
			a, _ := search.Solve(c, fuel)
			for range 3 {
				b, _ := search.Solve(c, fuel)
				if a.Verdict != b.Verdict || !slices.Equal(a.Values, b.Values) || !slices.EqualFunc(a.Proof, b.Proof, slices.Equal[[]int]) {
					t.Fatalf("%v: %v, and then %v", c, a, b)
				}
			}
		}
	}
}

// J1, H4: roots of drawn graphs: those that can be so are told so, by values that the graph tells too.
func TestSolveGraphs(t *testing.T) {
	d := new(samples.Draw)
	told := map[int]int{}
	for range 200 {
		g := d.Graph(2+d.Below(6), 10+d.Below(60))
		var roots []int
		for range 1 + d.Below(3) {
			roots = append(roots, 2+d.Below(2*(g.Ins+len(g.Ands))))
		}
		c, e := cnf.Of(g, roots)
		if e != api.OK {
			t.Fatalf("%v, %v: %d", g, roots, e)
		}
		told[solved(t, c, api.MaxFuel)]++
	}
	if told[api.VerdictYes] < 50 || told[api.VerdictNo] < 20 {
		t.Errorf("told: %v", told)
	}
}
