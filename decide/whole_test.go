package decide_test

import (
	"reflect"
	"testing"

	"latchwork/api"
	"latchwork/blast"
	"latchwork/cnf"
	"latchwork/decide"
	"latchwork/eval"
	"latchwork/explore"
	"latchwork/gates"
	"latchwork/proof"
	"latchwork/prove"
	"latchwork/samples"
	"latchwork/search"
	"latchwork/text"
	"latchwork/trace"
	"latchwork/unroll"
)

// drawn models, with states of few bits.
func drawn(d *samples.Draw, i int) api.Model {
	if i%2 == 0 {
		return d.Shuffler(2, 1+d.Below(2), 1+d.Below(3))
	}
	return d.Model(d.Below(4), d.Below(5), d.Below(20))
}

// The whole: what is printed is parsed as it was, and nothing else is.
func TestWholeTexts(t *testing.T) {
	d := new(samples.Draw)
	pieces := []string{"", " ", "\n", "0", "1", "7", "bad 0\n", "in 1\n"}
	parsed := 0
	for i := range 1000 {
		m := drawn(d, i)
		s, _ := text.Print(m)
		if back, line, e := text.Parse(s); e != api.OK || line != 0 || !samples.Same(back, m) {
			t.Fatalf("%q: %v %d %d", s, back, line, e)
		}
		s = d.Altered(s, pieces)
		if back, _, e := text.Parse(s); e == api.OK {
			parsed++
			if again, e := text.Print(back); e != api.OK || again != s {
				t.Fatalf("%q: parsed, and printed as %q %d", s, again, e)
			}
		}
		x := d.Trace(m, d.Below(5))
		s, _ = trace.Print(x)
		if back, e := trace.Parse(s); e != api.OK || !reflect.DeepEqual(back, x) {
			t.Fatalf("%q: %v %d", s, back, e)
		}
		s = d.Altered(s, pieces)
		if back, e := trace.Parse(s); e == api.OK {
			parsed++
			if again, e := trace.Print(back); e != api.OK || again != s {
				t.Fatalf("%q: parsed, and printed as %q %d", s, again, e)
			}
		}
	}
	if parsed < 100 {
		t.Errorf("just %d are parsed", parsed)
	}
}

// bitsOf a number, the lowest first.
func bitsOf(number, count int) []bool {
	bits := make([]bool, count)
	for i := range bits {
		bits[i] = number>>i&1 == 1
	}
	return bits
}

// The whole: the gates tell just what the model does; what the graph tells makes the clauses hold, and what makes them hold is told by the graph.
func TestWholeGatesAndClauses(t *testing.T) {
	d := new(samples.Draw)
	for i := range 150 {
		m := drawn(d, i)
		c, e := blast.Blast(m)
		if e != api.OK {
			t.Fatal(e)
		}
		list, e := cnf.Of(c.Graph, nil)
		if e != api.OK {
			t.Fatal(e)
		}
		var all []int
		for node := range list.Vars {
			all = append(all, 2*(1+node))
		}
		for range 8 {
			state, input := d.Below(1<<c.States), d.Below(1<<c.Inputs)
			ins := append(bitsOf(input, c.Inputs), bitsOf(state, c.States)...)
			agree(t, m, c, ins, samples.Unpacked(m, api.KindState, state), samples.Unpacked(m, api.KindInput, input))
			values, _ := gates.Eval(c.Graph, ins, all)
			if holds, e := cnf.Holds(list, values); !holds || e != api.OK {
				t.Fatalf("%v: what the graph tells does not hold", m)
			}
		}
		a, e := search.Solve(list, api.MaxFuel)
		if e != api.OK || a.Verdict != api.VerdictYes {
			t.Fatalf("%v: verdict %d, %d", m, a.Verdict, e)
		}
		if told, _ := gates.Eval(c.Graph, a.Values[:c.Graph.Ins], all); !reflect.DeepEqual(told, a.Values) && len(told) > 0 {
			t.Fatalf("%v: what holds is not what the graph tells", m)
		}
	}
}

// agree: do the gates tell what the model does, by these words?
func agree(t *testing.T, m api.Model, c api.Circuit, ins []bool, states, inputs []int) {
	t.Helper()
	nexts, _ := gates.Eval(c.Graph, ins, c.Nexts)
	bads, _ := gates.Eval(c.Graph, ins, c.Bads)
	held, _ := gates.Eval(c.Graph, ins, c.Holds)
	next, _ := eval.Step(m, states, inputs)
	holds, bad, e := eval.Look(m, states, inputs)
	if e != api.OK {
		t.Fatal(e)
	}
	at := 0
	for i, node := range m.Nodes {
		if node.Kind != api.KindState {
			continue
		}
		if !reflect.DeepEqual(nexts[at:at+node.Width], bitsOf(next[0], node.Width)) {
			t.Fatalf("%v: node %d is next %d, and by gates %v", m, i, next[0], nexts)
		}
		at, next = at+node.Width, next[1:]
	}
	some, every := false, true
	for _, is := range bads {
		some = some || is
	}
	for _, is := range held {
		every = every && is
	}
	if some != bad || every != holds {
		t.Fatalf("%v: %v %v, and by gates %v %v", m, holds, bad, every, some)
	}
}

// The whole: if there is a proof, nothing makes all clauses hold; an answer of a search is one that is checked.
func TestWholeProofs(t *testing.T) {
	d := new(samples.Draw)
	told := map[int]int{}
	for i := range 200 {
		m := drawn(d, i)
		c, _ := blast.Blast(m)
		steps := d.Below(5)
		list, e := unroll.Clauses(c, steps, true)
		if e != api.OK {
			t.Fatal(e)
		}
		a, e := search.Solve(list, api.MaxFuel)
		if is, f := search.Is(list, a); !is || e != api.OK || f != api.OK {
			t.Fatalf("%v: verdict %d, %d: %v %d", m, a.Verdict, e, is, f)
		}
		told[a.Verdict]++
		passes, e := proof.Check(list, a.Proof)
		if e != api.OK || passes != (a.Verdict == api.VerdictNo) || passes && badBy(samples.MachineOf(m), steps) {
			t.Fatalf("%v, %d steps: verdict %d, its proof passes: %v %d", m, steps, a.Verdict, passes, e)
		}
	}
	if min(told[api.VerdictYes], told[api.VerdictNo]) < 50 {
		t.Errorf("told: %v", told)
	}
}

// badBy just so many steps: is a trace?
func badBy(x samples.Machine, steps int) bool {
	here := map[int]int{}
	for _, state := range x.Begun {
		here[state] = 1
	}
	for left := steps; ; left-- {
		next := map[int]int{}
		for state := range here {
			for _, move := range x.Moves[state] {
				if move.Holds && move.Bad && left == 0 {
					return true
				}
				if move.Holds {
					next[move.Next] = 1
				}
			}
		}
		if left == 0 {
			return false
		}
		here = next
	}
}

// The whole: a trace that is found is bad, and none is shorter; what is safe by some steps has no trace that is bad, however long. (L4: and what has none is safe by some steps, no more than there are states.)
func TestWholeSteps(t *testing.T) {
	d := new(samples.Draw)
	told := map[bool]int{}
	for i := range 200 {
		m := drawn(d, i)
		found, _ := explore.Explore(m)
		x, n, e := unroll.Find(m, api.MaxSteps, api.MaxFuel)
		bad, _ := trace.Bad(m, x)
		if e != api.OK || bad != found.Bad || bad && (n != found.BadDeep || len(x.Inputs) != n+1) || !bad && n != -1 {
			t.Fatalf("%v: %v, and %v of %d steps, %d", m, found, x, n, e)
		}
		for _, steps := range []int{1, 2, 4, 16} {
			safe, e := prove.Prove(m, steps, api.MaxFuel)
			if e != api.OK || safe && found.Bad || steps == 16 && safe == found.Bad {
				t.Fatalf("%v: %v, and safe by %d steps: %v %d", m, found, steps, safe, e)
			}
		}
		told[bad]++
	}
	if min(told[true], told[false]) < 50 {
		t.Errorf("told: %v", told)
	}
}

// The whole: what is said to be safe has no trace that is bad, and what is said to be unsafe has one; with as many steps as there are states one of both is said.
func TestWholeDecisions(t *testing.T) {
	d := new(samples.Draw)
	told := map[string]int{}
	for i := range 200 {
		m := drawn(d, i)
		found, _ := explore.Explore(m)
		s, _ := text.Print(m)
		got, e := decide.Text(s, 16, api.MaxFuel)
		want := "safe"
		if found.Bad {
			want = "unsafe"
		}
		if e != api.OK || len(got) < len(want) || got[:len(want)] != want {
			t.Fatalf("%v: %v, and %q %d", m, found, got, e)
		}
		told[want]++
	}
	if min(told["safe"], told["unsafe"]) < 50 {
		t.Errorf("told: %v", told)
	}
}
