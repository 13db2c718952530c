package solver

import (
	"container/heap"
	"slices"

	"assessor/api"
)

// none stands in the place of a clause: there is no conflict, or a literal was decided.
const none = -1

// search is a search for a model. Its level is the number of decisions that hold; what holds on level 0 follows without any.
type search struct {
	clauses [][]int         // of the formula, of the assumptions, and behind them those that were learned; the first two literals are watched
	given   int             // how many clauses were not learned
	from    []int           // of clauses, where the search for another literal to watch goes on
	watched map[int][]watch // of literals, the clauses that watch them
	wrong   int             // a clause that cannot hold from the beginning

	values  []int // of variables, the literal that holds, or 0
	levels  []int // of variables with a value, the level on which they got it
	reasons []int // of variables with a value, the clause from which it follows
	trail   []int // the literals that hold, in the order in which they came
	starts  []int // of decisions, their places on the trail
	next    int   // the place on the trail of the first literal that was not propagated

	choices []int  // the literals that are decided, in this order
	ranks   []int  // of variables, their places in choices
	waiting ranks  // of variables; all those without a value are among them
	waits   []bool // by rank, whether it is waiting

	seen   []bool // of variables, whether a conflict that is explained depends on them
	length int    // of all clauses that were learned
	room   int    // for literals of clauses that need not be learned
}

// watch is a clause that watches a literal, and another literal of it: as long as this is true, there is no need to look at the clause.
type watch struct{ clause, other int }

func newSearch(f api.Formula, assumptions, order []int) *search {
	n := f.Variables + 1
	s := &search{watched: map[int][]watch{}, wrong: none, values: make([]int, n), levels: make([]int, n), reasons: make([]int, n), ranks: make([]int, n), waits: make([]bool, n), seen: make([]bool, n), room: room}
	for _, clause := range f.Clauses {
		s.add(slices.Clone(clause))
	}
	for _, x := range assumptions {
		s.add([]int{x})
	}
	s.given = len(s.clauses)
	for i, clause := range s.clauses {
		switch {
		case len(clause) == 0 || len(clause) == 1 && s.isFalse(clause[0]):
			s.wrong = i
		case len(clause) == 1 && !s.isTrue(clause[0]):
			s.set(clause[0], i)
		}
	}
	s.choose(order)
	return s
}

// choose lets the negations of some literals be decided first, in their order, and then those of all variables.
func (s *search) choose(order []int) {
	isChosen := make([]bool, len(s.values))
	choose := func(x int) {
		v := variable(x)
		if isChosen[v] {
			return
		}
		isChosen[v] = true
		s.ranks[v] = len(s.choices)
		s.choices = append(s.choices, -x)
		s.wait(v)
	}
	for _, x := range order {
		choose(x)
	}
	for v := 1; v < len(s.values); v++ {
		choose(v)
	}
}

// add adds a clause, and returns its number. Its first two literals must be those that lose their values first when decisions are taken back.
func (s *search) add(clause []int) int {
	i := len(s.clauses)
	s.clauses = append(s.clauses, clause)
	s.from = append(s.from, 2)
	if len(clause) > 1 {
		s.watch(clause[0], watch{i, clause[1]})
		s.watch(clause[1], watch{i, clause[0]})
	}
	return i
}

func (s *search) watch(x int, w watch) { s.watched[x] = append(s.watched[x], w) }

func (s *search) isTrue(x int) bool  { return s.values[variable(x)] == x }
func (s *search) isFalse(x int) bool { return s.values[variable(x)] == -x }

// set makes a literal true that has no value.
func (s *search) set(x, reason int) {
	v := variable(x)
	s.values[v], s.levels[v], s.reasons[v] = x, len(s.starts), reason
	s.trail = append(s.trail, x)
}

// propagate sets all literals that follow, and returns a clause that cannot hold.
func (s *search) propagate() int {
	for s.next < len(s.trail) {
		x := s.trail[s.next]
		s.next++
		if i := s.visit(-x); i != none {
			return i
		}
	}
	return s.wrong
}

// visit looks at the clauses that watch a literal that has become false, and returns one that cannot hold.
func (s *search) visit(x int) int {
	l := s.watched[x]
	kept := l[:0]
	for k, w := range l {
		if s.isTrue(w.other) {
			kept = append(kept, w)
			continue
		}
		clause := s.clauses[w.clause]
		if clause[0] == x {
			clause[0], clause[1] = clause[1], x
		}
		w.other = clause[0]
		switch {
		case s.isTrue(w.other):
			kept = append(kept, w)
		case s.move(w):
		case s.isFalse(w.other):
			s.watched[x] = append(kept, l[k:]...)
			return w.clause
		default:
			kept = append(kept, w)
			s.set(w.other, w.clause)
		}
	}
	s.watched[x] = kept
	return none
}

// move lets a clause watch another literal instead of its second one, if there is one that is not false.
func (s *search) move(w watch) bool {
	clause := s.clauses[w.clause]
	// Going on where the last search ended, a long clause is read once on the way down, and not once for each of its literals.
	k := s.from[w.clause]
	for range len(clause) - 2 {
		if k == len(clause) {
			k = 2
		}
		if y := clause[k]; !s.isFalse(y) {
			clause[1], clause[k] = y, clause[1]
			s.from[w.clause] = k + 1
			s.watch(y, w)
			return true
		}
		k++
	}
	return false
}

// decide makes the next decision; it reports whether a variable is left.
func (s *search) decide() bool {
	for s.waiting.Len() > 0 {
		rank, _ := heap.Pop(&s.waiting).(int)
		s.waits[rank] = false
		x := s.choices[rank]
		if s.values[variable(x)] == 0 {
			s.starts = append(s.starts, len(s.trail))
			s.set(x, none)
			return true
		}
	}
	return false
}

// back takes all decisions behind a level back.
func (s *search) back(level int) {
	at := s.starts[level]
	for _, x := range s.trail[at:] {
		v := variable(x)
		s.values[v] = 0
		s.wait(v)
	}
	s.trail, s.starts, s.next = s.trail[:at], s.starts[:level], at
}

// wait lets a variable wait for a decision.
func (s *search) wait(v int) {
	rank := s.ranks[v]
	if !s.waits[rank] {
		s.waits[rank] = true
		heap.Push(&s.waiting, rank)
	}
}

func variable(x int) int { return max(x, -x) }
