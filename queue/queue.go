// Package queue: who is chosen next, for a search.
package queue

import "container/heap"

// apart: the place of a variable that does not stand in the heap.
const apart = -1

// What a variable gains each time it is met. That grows from lesson to lesson, so that late ones count more; where it has grown too great, all weights shrink.
const (
	firstGain = 1 << 10
	maxGain   = 1 << 40
	shrinking = 30 // by so many bits
)

// Queue of variables that may be chosen: a heap, the heaviest first, of two that weigh the same the lower one.
type Queue struct {
	heaped  []int
	places  []int // where in the heap each variable stands
	weights []int
	gain    int
}

// New queue of variables from 1 on.
func New(vars int) *Queue {
	q := &Queue{places: make([]int, vars+1), weights: make([]int, vars+1), gain: firstGain}
	for variable := 1; variable <= vars; variable++ {
		q.Push(variable)
	}
	return q
}

// Len, Less, Swap, Push and Pop are for the heap to call.
func (q *Queue) Len() int { return len(q.heaped) }

func (q *Queue) Less(i, j int) bool {
	a, b := q.heaped[i], q.heaped[j]
	if q.weights[a] != q.weights[b] {
		return q.weights[a] > q.weights[b]
	}
	return a < b
}

func (q *Queue) Swap(i, j int) {
	a, b := q.heaped[i], q.heaped[j]
	q.heaped[i], q.heaped[j] = b, a
	q.places[a], q.places[b] = j, i
}

func (q *Queue) Push(x any) {
	if variable, is := x.(int); is {
		q.places[variable] = len(q.heaped)
		q.heaped = append(q.heaped, variable)
	}
}

func (q *Queue) Pop() any {
	last := len(q.heaped) - 1
	variable := q.heaped[last]
	q.heaped = q.heaped[:last]
	q.places[variable] = apart
	return variable
}

// First takes out the variable that is to be chosen ahead of all others.
func (q *Queue) First() int {
	variable := q.heaped[0]
	heap.Pop(q)
	return variable
}

// Add a variable, if it is not there.
func (q *Queue) Add(variable int) {
	if q.places[variable] == apart {
		heap.Push(q, variable)
	}
}

// Meet a variable: it gains weight.
func (q *Queue) Meet(variable int) {
	q.weights[variable] += q.gain
	if place := q.places[variable]; place != apart {
		heap.Fix(q, place)
	}
}

// Fade: what was met up to now counts less than what is met from now on.
func (q *Queue) Fade() {
	q.gain += q.gain / 16
	if q.gain < maxGain {
		return
	}
	q.gain >>= shrinking
	for variable := range q.weights {
		q.weights[variable] >>= shrinking
	}
	heap.Init(q)
}
