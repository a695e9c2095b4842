package brief

import (
	"testing"

	"latchwork/api"
	"latchwork/must"
	"latchwork/samples"
)

// tables of clauses that can't hold.
func tables(c api.Clauses) []*table {
	var all []*table
	clauses := leftOf(must.New(c))
	for _, group := range groupsOf(clauses) {
		if t := newTable(group, clauses); t.price() < never {
			all = append(all, t)
		}
	}
	return all
}

// Scales don't tell that a proof has no room which is there; and of clauses that have all variables they tell it of each that is shorter.
func TestScales(t *testing.T) {
	for vars := 2; vars <= 6; vars++ {
		tab := tables(samples.Corners(vars))[0]
		if length := 1 << (vars - 1); newScales(tab).outweigh(length) || !newScales(tab).outweigh(length-1) {
			t.Errorf("%d variables: not just %d", vars, length)
		}
	}
	d := new(samples.Draw)
	told := 0
	for range 300 {
		c := d.Clauses(6, 20+d.Below(40), 2, 6)
		for _, tab := range tables(c) {
			length := tab.price()
			for {
				shorter, found := newSeeker().among([]*table{tab}, length-1)
				if !found {
					break
				}
				length = len(shorter)
			}
			if newScales(tab).outweigh(length) {
				t.Fatalf("%v: there is a proof of %d", c, length)
			}
			if newScales(tab).outweigh(length - 1) {
				told++
			}
		}
	}
	if told < 50 {
		t.Errorf("told: %d", told)
	}
}
