package search

import (
	"iter"
	"slices"

	"latchwork/api"
	"latchwork/must"
)

// learn of a clause that failed above level 0.
func (s *searcher) learn(failed int) {
	s.lessons++
	others, last := s.lesson(failed)
	s.queue.Fade()
	if len(others) >= api.MaxClause {
		// No proof has room for it. Begun anew, with its last number ahead of the others, the search fails elsewhere.
		s.queue.Meet(variableOf(last))
		s.back(0)
		return
	}
	lesson := append(others, last)
	s.proof = append(s.proof, lesson)
	s.back(s.levelOf(others))
	s.Add(lesson)
	if s.left--; s.left == 0 {
		s.back(0)
		s.round += s.round / 2
		s.left = s.round
	}
}

// levelOf numbers that are not so: the greatest.
func (s *searcher) levelOf(numbers []int) int {
	level := 0
	for _, number := range numbers {
		place, _ := s.Place(-number)
		level = max(level, s.Steps[place].Level)
	}
	return level
}

// lesson of a clause that failed: numbers of which one must be so, since that clause fails if none is. Just one of them, the last, came to be not so on the level of the last choice.
func (s *searcher) lesson(clause int) (others []int, last int) {
	open := 0
	meet := func(clause int) {
		for number, place := range s.causes(clause) {
			s.marks[place] = s.lessons
			s.queue.Meet(variableOf(number))
			if s.Steps[place].Level == s.Level {
				open++
			} else {
				others = append(others, number)
			}
		}
	}
	meet(clause)
	place := len(s.Steps) - 1
	for ; open > 1 || s.marks[place] != s.lessons; place-- {
		if s.marks[place] == s.lessons {
			meet(s.Steps[place].Clause)
			open--
		}
	}
	isIdle := func(number int) bool {
		place, _ := s.Place(-number)
		return s.isIdle(place)
	}
	return slices.DeleteFunc(others, isIdle), -s.Steps[place].Number
}

// causes: the numbers of a clause that are not so, each with the place of the step by which it is not; but for those on level 0, and those that this lesson has met.
func (s *searcher) causes(clause int) iter.Seq2[int, int] {
	return func(yield func(number, place int) bool) {
		s.Work++
		for _, number := range s.Clauses[clause] {
			place, isNot := s.Place(-number)
			if !isNot || s.Steps[place].Level == 0 || s.marks[place] == s.lessons {
				continue
			}
			if !yield(number, place) {
				return
			}
		}
	}
}

// isIdle: is a step of no use to this lesson, since it must be by others that the lesson has met?
func (s *searcher) isIdle(place int) bool {
	clause := s.Steps[place].Clause
	if clause == must.None {
		return false
	}
	for _, cause := range s.causes(clause) {
		if s.marks[cause] == -s.lessons || !s.isIdle(cause) {
			s.marks[cause] = -s.lessons
			return false
		}
		s.marks[cause] = s.lessons
	}
	return true
}
