package queue

import (
	"testing"

	"latchwork/samples"
)

// The heaviest variable comes first, and of those that weigh the same the lowest, also behind so many lessons that weights have shrunk.
func TestQueue(t *testing.T) {
	d := new(samples.Draw)
	const vars = 50
	for _, lessons := range []int{0, 1, 10, 20, 1000, 5000} {
		q := New(vars)
		for range lessons {
			for range d.Below(5) {
				q.Meet(1 + d.Below(vars))
			}
			if q.Fade(); d.Below(2) == 0 {
				q.Add(q.First())
			}
		}
		if lessons == 20 { // and then many in which none is met
			for range 1000 {
				q.Fade()
			}
		}
		if q.gain <= 0 || q.gain > 2*maxGain {
			t.Errorf("%d lessons: a gain of %d", lessons, q.gain)
		}
		last := 0
		for range vars {
			variable := q.First()
			if last > 0 && (q.weights[last] < q.weights[variable] || q.weights[last] == q.weights[variable] && last > variable) {
				t.Errorf("%d lessons: %d, that weighs %d, ahead of %d, that weighs %d", lessons, last, q.weights[last], variable, q.weights[variable])
			}
			last = variable
		}
		if q.Len() != 0 {
			t.Errorf("%d lessons: %d left", lessons, q.Len())
		}
	}
}
