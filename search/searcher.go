package search

import (
	"latchwork/api"
	"latchwork/brief"
	"latchwork/must"
	"latchwork/queue"
)

// perFuel is how much of the board's work each unit of fuel is good for.
const perFuel = 100

// firstRound is how many lessons a search takes until it begins anew, with all that it has learnt; each round is by half longer than the last one, so that at some time one is long enough.
const firstRound = 100

// searcher chooses numbers until nothing is left to choose, and learns of each clause that fails.
type searcher struct {
	*must.Board
	queue   *queue.Queue
	given   api.Clauses
	most    int     // how much work there may be
	proof   [][]int // the lessons that were learnt
	lessons int     // how many there were, those too that were too long to be learnt
	marks   []int   // for each step: the last lesson that met it, or, as its opposite, the last one in which it is known not to be idle
	leaning []int   // for each variable: which of its two numbers was so last
	round   int     // how many lessons this round has
	left    int     // how many of them are still to come
}

func newSearcher(c api.Clauses, fuel int) *searcher {
	return &searcher{
		Board:   must.New(c),
		queue:   queue.New(c.Vars),
		given:   c,
		most:    fuel * perFuel,
		marks:   make([]int, c.Vars),
		leaning: make([]int, c.Vars+1),
		round:   firstRound,
		left:    firstRound,
	}
}

// run until there is an answer.
func (s *searcher) run() api.Answer {
	for !s.Lost {
		failed := s.Spread()
		switch {
		case s.Lost:
		case failed != must.None && s.isSpent():
			return api.Answer{Verdict: api.VerdictUnknown}
		case failed != must.None:
			s.learn(failed)
		case !s.choose():
			return api.Answer{Verdict: api.VerdictYes, Values: s.values()}
		}
	}
	return s.refused(append(s.proof, nil))
}

// refused, by a proof of all lessons; or by a shorter one, where there is no room for these beside the clauses.
func (s *searcher) refused(proof [][]int) api.Answer {
	room := api.MaxClauses - len(s.given.List)
	fits := len(proof) <= room
	if !fits {
		proof, fits = brief.Proof(s.given, room)
	}
	if !fits {
		return api.Answer{Verdict: api.VerdictUnknown}
	}
	return api.Answer{Verdict: api.VerdictNo, Proof: proof}
}

// isSpent: is there no more fuel? With few variables it is not counted: they have so few values that a search ends soon.
func (s *searcher) isSpent() bool { return s.given.Vars > brief.Few && s.Work > s.most }

// choose a number that is neither, if there is one: as it was last.
func (s *searcher) choose() bool {
	for s.queue.Len() > 0 {
		variable := s.queue.First()
		if s.IsSo(variable) || s.IsNot(variable) {
			continue
		}
		if s.leaning[variable] > 0 {
			s.Choose(variable)
		} else {
			s.Choose(-variable)
		}
		return true
	}
	return false
}

func (s *searcher) values() []bool {
	values := make([]bool, s.given.Vars)
	for i := range values {
		values[i] = s.IsSo(i + 1)
	}
	return values
}

// back to a level: what is neither then may be chosen again.
func (s *searcher) back(level int) {
	for _, step := range s.Back(level) {
		variable := variableOf(step.Number)
		s.leaning[variable] = step.Number
		s.queue.Add(variable)
	}
}

func variableOf(number int) int { return max(number, -number) }
