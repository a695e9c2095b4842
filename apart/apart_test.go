package apart_test

import (
	"testing"

	"latchwork/apart"
	"latchwork/api"
	"latchwork/blast"
	"latchwork/samples"
)

// circuit of a model, and all that the model does.
func circuit(t *testing.T, m api.Model) (api.Circuit, samples.Machine) {
	t.Helper()
	c, e := blast.Blast(m)
	if e != api.OK {
		t.Fatalf("%v: %d", m, e)
	}
	return c, samples.MachineOf(m)
}

func TestApproach(t *testing.T) {
	d := new(samples.Draw)
	told := map[bool]int{}
	for range 300 {
		m := d.Reckoner(5)
		c, x := circuit(t, m)
		for _, steps := range []int{0, 1 + d.Below(7), 8 + d.Below(33)} {
			want := x.Approached(steps)
			told[want]++
			if verdict := apart.Approach(c, steps, api.MaxFuel); verdict == api.VerdictUnknown || want != (verdict == api.VerdictYes) {
				t.Fatalf("%v, %d steps: verdict %d, want %v", m, steps, verdict, want)
			}
			if verdict := apart.Approach(c, steps, 0); verdict != api.VerdictUnknown && want != (verdict == api.VerdictYes) {
				t.Fatalf("%v, %d steps, no fuel: verdict %d, want %v", m, steps, verdict, want)
			}
		}
	}
	if min(told[true], told[false]) < 100 {
		t.Errorf("told: %v", told)
	}
}

// What is shown to be far can't be approached, and no trace of the fewest steps has as many.
func TestIsFar(t *testing.T) {
	d := new(samples.Draw)
	shown := 0
	for range 300 {
		m := d.Reckoner(5)
		c, x := circuit(t, m)
		for steps := range 12 {
			isFar := apart.IsFar(c, steps, api.MaxFuel)
			if isTried := steps == 1 || steps == 2 || steps == 4 || steps == 8; isFar != (isTried && !x.Approached(steps)) {
				t.Fatalf("%v, %d steps: %v", m, steps, isFar)
			}
			if isFar && x.Fewest() >= steps {
				t.Fatalf("%v, %d steps: it is bad by %d", m, steps, x.Fewest())
			}
			if isFar {
				shown++
			}
		}
	}
	if shown < 300 {
		t.Errorf("just %d are far", shown)
	}
}

// Where there would be too many clauses, nothing is known.
func TestTooManyClauses(t *testing.T) {
	c := api.Circuit{Graph: samples.Broad(api.MaxVars / 2), Inputs: 999, States: 1, Inits: []int{-1}, Nexts: []int{2}, Bads: []int{2}}
	if verdict := apart.Approach(c, 1, api.MaxFuel); verdict != api.VerdictUnknown {
		t.Errorf("verdict %d", verdict)
	}
	if verdict := apart.Approach(c, 2, api.MaxFuel); verdict != api.VerdictNo {
		t.Errorf("more steps than there are states: verdict %d", verdict)
	}
}
