package solver

import (
	"slices"

	"assessor/api"
)

// room is how many literals of a proof are kept for clauses that need not be learned.
//
// The clause of the decisions must be learned. All decisions give their variables the one value that is tried first, and are made in one order; with this clause the last of them does not come again as long as the variables before it have the same values. So if 16 variables are enough to decide, there are at most 2^15 + 2^14 + .. + 1 conflicts with decisions, and these have 2^19 literals together: half of what a proof may have.
const room = api.MaxProof / 2

// learn adds what follows from a conflict, and takes decisions back up to the first level on which something new follows from that.
func (s *search) learn(conflict int) {
	s.room += len(s.starts)
	l := s.lessons(conflict)
	level := len(s.starts)
	for _, clause := range l {
		s.room -= len(clause)
		s.length += len(clause)
		level = min(level, s.second(clause))
	}
	s.back(level)
	for _, clause := range l {
		i := s.add(clause)
		if len(clause) == 1 || s.isFalse(clause[1]) {
			s.set(clause[0], i)
		}
	}
}

// second returns the level on which all literals of a learned clause but the first one are false.
func (s *search) second(clause []int) int {
	if len(clause) == 1 {
		return 0
	}
	return s.levels[variable(clause[1])]
}

// lessons returns the clauses that are learned from a conflict.
func (s *search) lessons(conflict int) [][]int {
	first := s.explain(conflict, s.isPoint)
	if s.isDecided(first[0]) && len(first) <= s.room {
		return [][]int{first}
	}
	decisions := s.explain(conflict, func(x, open int) bool { return s.isDecided(x) })
	if len(first)+len(decisions) > s.room {
		return [][]int{decisions}
	}
	return [][]int{first, decisions}
}

func (s *search) isDecided(x int) bool { return s.reasons[variable(x)] == none }

// isPoint reports whether a literal is one of the clause that has only one literal of the last level, the last one on which all of the conflict depends. Of this level there are still some open literals.
func (s *search) isPoint(x, open int) bool {
	v := variable(x)
	switch {
	case s.isDecided(x):
		return true
	case s.levels[v] == len(s.starts):
		return open == 1
	}
	// What follows from others of the clause is not needed.
	isNew := func(y int) bool { return s.levels[variable(y)] > 0 && !s.seen[variable(y)] }
	return slices.ContainsFunc(s.clauses[s.reasons[v]], isNew)
}

// explain returns a clause that follows from a conflict: going back on the trail, each literal on which it depends is kept, or replaced by those from which it follows. The literals of the clause are the negations of those that are kept, in the reverse order of the trail.
func (s *search) explain(conflict int, isKept func(x, open int) bool) []int {
	var clause []int
	left, open := 0, 0 // literals on which it depends, and those of the last level among them
	need := func(i int) {
		for _, x := range s.clauses[i] {
			v := variable(x)
			if s.seen[v] || s.levels[v] == 0 {
				continue
			}
			s.seen[v] = true
			left++
			if s.levels[v] == len(s.starts) {
				open++
			}
		}
	}
	need(conflict)
	k := len(s.trail)
	for left > 0 {
		k--
		x := s.trail[k]
		v := variable(x)
		if !s.seen[v] {
			continue
		}
		if isKept(x, open) {
			clause = append(clause, -x)
		} else {
			need(s.reasons[v])
		}
		left--
		if s.levels[v] == len(s.starts) {
			open--
		}
	}
	for _, x := range s.trail[k:] {
		s.seen[variable(x)] = false
	}
	return clause
}
