package explore

import (
	"latchwork/api"
	"latchwork/course"
	"latchwork/eval"
)

// place: the words of all states. (Each has one bit at least, so there are no more of them.)
type place [api.MaxStateBits]int

func placeOf(states []int) place {
	var p place
	copy(p[:], states)
	return p
}

// explorer of a model's states.
type explorer struct {
	model api.Model
	met   map[place]int // by how few steps each state can be
	ahead [][]int       // states that were met, and are still to be left, the nearest first
	found api.Found
}

// explored: all that can be of a model that has passed its check, so that eval refuses nothing here.
func explored(m api.Model) explorer {
	x := explorer{model: m, met: map[place]int{}}
	for wish := range allWords(m, api.KindState) {
		begun, _ := eval.Begin(m, wish)
		x.meet(begun, 0)
	}
	for len(x.ahead) > 0 {
		states := x.ahead[0]
		x.ahead = x.ahead[1:]
		x.leave(states)
	}
	return x
}

// meet a state, by so many steps, never fewer than the last time.
func (x *explorer) meet(states []int, steps int) {
	p := placeOf(states)
	if _, was := x.met[p]; was {
		return
	}
	x.met[p] = steps
	x.ahead = append(x.ahead, states)
	x.found.Reached++
	x.found.Deep = steps
}

// leave a state by all inputs that may be taken there.
func (x *explorer) leave(states []int) {
	steps := x.met[placeOf(states)]
	for inputs := range allWords(x.model, api.KindInput) {
		words := course.Words(x.model, states, inputs)
		holds, bad := course.Look(x.model, words)
		if !holds {
			continue
		}
		if bad && !x.found.Bad {
			x.found.Bad, x.found.BadDeep = true, steps
		}
		x.meet(course.Follow(x.model, x.model.Nexts, words), steps+1)
	}
}
