package chain

import (
	"slices"
	"testing"

	"latchwork/api"
	"latchwork/blast"
	"latchwork/cnf"
	"latchwork/samples"
)

func TestNewRefuses(t *testing.T) {
	wrong, errors := samples.WrongCircuits()
	for i, c := range wrong {
		for _, steps := range []int{-1, 0} {
			if u, e := New(c, steps); u != nil || e != errors[i] {
				t.Errorf("circuit %d, %d steps: %v %d, want %d", i, steps, u, e, errors[i])
			}
		}
	}
	for _, steps := range []int{-1, api.MaxSteps + 1} {
		if u, e := New(api.Circuit{}, steps); u != nil || e != api.ErrRange {
			t.Errorf("%d steps: %v %d", steps, u, e)
		}
	}
}

func TestLiteralsOfSteps(t *testing.T) {
	u, e := New(api.Circuit{Graph: api.Graph{Ins: 3, Ands: [][2]int{{2, 5}, {3, 6}}}, Inputs: 1, States: 2, Inits: []int{-1, -1}, Nexts: []int{8, 11}}, 2)
	if e != api.OK {
		t.Fatal(e)
	}
	for _, x := range [][3]int{{0, 0, 0}, {0, 1, 1}, {2, 0, 0}, {2, 1, 1}, {0, 2, 2}, {0, 11, 11}, {1, 2, 12}, {1, 11, 21}, {2, 3, 23}} {
		if got := u.At(x[0], x[1]); got != x[2] {
			t.Errorf("%d at step %d: %d, want %d", x[1], x[0], got, x[2])
		}
	}
	for _, x := range [][3]int{{0, 0, 4}, {0, 1, 6}, {1, 0, 14}, {2, 1, 26}} {
		if got := u.State(x[0], x[1]); got != x[2] {
			t.Errorf("bit %d of step %d: %d, want %d", x[1], x[0], got, x[2])
		}
	}
}

// What may not be is not made; and what may, at the edge.
func TestMadeOnlyIfItMayBe(t *testing.T) {
	for i, x := range []struct {
		vars, clauses int
		want          api.Errno
	}{
		{api.MaxVars, api.MaxClauses, api.OK},
		{api.MaxVars + 1, 0, api.ErrRange},
		{api.MaxVars, api.MaxClauses + 1, api.ErrMany},
		{api.MaxVars + 1, api.MaxClauses + 1, api.ErrRange},
	} {
		var u Unroller
		made := 0
		half := Part{Vars: x.vars / 2, Clauses: x.clauses / 2, Make: func() { made++ }}
		rest := Part{Vars: x.vars - half.Vars, Clauses: x.clauses - half.Clauses, Make: func() { made++ }}
		_, e := u.Made(half, rest)
		if want := 2; e != x.want || (made == want) != (e == api.OK) || made != 0 && made != want {
			t.Errorf("%d: %d, want %d; %d parts are made", i, e, x.want, made)
		}
	}
	var u Unroller
	long := Part{Vars: 1, Clauses: 1, Make: func() { u.Add(slices.Repeat([]int{u.New()}, api.MaxClause+1)...) }}
	if c, e := u.Made(long); e != api.ErrMany || c.Vars != 0 || len(c.List) > 0 {
		t.Errorf("too long a clause: %v %d", c, e)
	}
}

// Each part takes as many variables and clauses as it says.
func TestPartsCountThemselves(t *testing.T) {
	d := new(samples.Draw)
	for range 500 {
		c := d.Circuit(d.Below(4), d.Below(4), d.Below(6))
		u, e := New(c, d.Below(4))
		if e != api.OK {
			t.Fatalf("%v: %d", c, e)
		}
		for i, part := range []Part{u.Ands(), u.Bonds(), u.Begins(), u.Holds(), u.Bad()} {
			vars, count := u.Vars, len(u.List)
			part.Make()
			if u.Vars-vars != part.Vars || len(u.List)-count != part.Clauses {
				t.Fatalf("%v: part %d has %d, %d, and says %d, %d", c, i, u.Vars-vars, len(u.List)-count, part.Vars, part.Clauses)
			}
		}
	}
}

// A search without fuel comes to the end in halves, whenever all choices are among them.
func TestHalve(t *testing.T) {
	d := new(samples.Draw)
	told, halved := map[int]int{}, 0
	for range 120 {
		c, e := blast.Blast(d.Reckoner(5))
		if e != api.OK {
			t.Fatal(e)
		}
		steps := d.Below(3)
		u, e := New(c, steps)
		if e != api.OK {
			t.Fatal(e)
		}
		list, e := u.Made(u.Ands(), u.Bonds(), u.Begins(), u.Holds(), u.Bad())
		if e != api.OK {
			t.Fatal(e)
		}
		want, _ := halve(list, nil, api.MaxFuel)
		verdict, values := halve(list, choicesOf(c, steps), 0)
		if verdict != want || want == api.VerdictUnknown {
			t.Fatalf("%v, %d steps: %d, want %d", c, steps, verdict, want)
		}
		if holds, _ := cnf.Holds(list, values); holds != (verdict == api.VerdictYes) {
			t.Fatalf("%v, %d steps: the values do not do", c, steps)
		}
		told[verdict]++
		if whole, _ := halve(list, nil, 0); whole == api.VerdictUnknown {
			halved++
		}
	}
	if halved < 15 || min(told[api.VerdictYes], told[api.VerdictNo]) < 15 {
		t.Errorf("%d were halved, told: %v", halved, told)
	}
}

// Of two steps of inputs of 2 bits and states of 3 all choices are told; of more than that none is.
func TestChoices(t *testing.T) {
	c := api.Circuit{Graph: api.Graph{Ins: 5, Ands: [][2]int{{2, 4}}}, Inputs: 2, States: 3}
	if got := choicesOf(c, 2); !slices.Equal(got, []int{3, 4, 5, 1, 2, 7, 8, 13, 14}) || len(got) > littleBits {
		t.Errorf("choices: %v", got)
	}
	if got := choicesOf(api.Circuit{}, 2); len(got) > 0 {
		t.Errorf("choices of nothing: %v", got)
	}
}
