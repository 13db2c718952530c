package symbolic

import (
	"slices"

	"assessor/api"
	"assessor/simplify"
)

// running is the end of a state that has not ended. The other ends are the faults, and FaultNone behind a return.
const running = -1

// state is where a run is, or how it has ended.
type state struct {
	condition int // under which the run comes here: if states are merged, from where it was divided last, otherwise from its beginning
	end       int
	procedure *procedure
	slots     []int
	values    []int // that expressions have pushed; behind a return, those that are returned
	known     *fact
}

// fact is the value that a condition has wherever the run comes to a state.
type fact struct {
	condition, value int
	before           *fact
}

func (s *state) push(l ...int) { s.values = append(s.values, l...) }

// take returns values that were pushed last, in the order in which they were pushed. They stand where the next ones are pushed.
func (s *state) take(count int) []int {
	rest := len(s.values) - count
	taken := s.values[rest:]
	s.values = s.values[:rest]
	return taken
}

func (s *state) pop() int { return s.take(1)[0] }

// variable returns the slots of the variable that a node declares or names.
func (s state) variable(n *node) []int { return s.slots[n.from:n.to] }

// copied returns the same state, with memory of its own.
func (s state) copied() state {
	s.slots, s.values = slices.Clone(s.slots), slices.Clone(s.values)
	return s
}

// goesOn returns this state as the only one.
func (s state) goesOn() []state { return []state{s} }

// ends returns this state with an end, and what it returns, as the only one.
func (s state) ends(end int, values ...int) []state {
	return []state{{condition: s.condition, end: end, values: values, known: s.known}}
}

// returns returns this state at the end of a procedure without a result, as the only one.
func (s state) returns() []state {
	var values []int
	for _, slot := range s.procedure.outputs {
		values = append(values, s.slots[slot])
	}
	return s.ends(api.FaultNone, values...)
}

// indexOf returns the index of the first state with an end, or -1.
func indexOf(l []state, end int) int {
	return slices.IndexFunc(l, func(s state) bool { return s.end == end })
}

// value returns the value of a condition if it is known in a state.
func (r *run) value(s state, c int) (int, bool) {
	if value, ok := simplify.Constant(r.table, c); ok {
		return value, true
	}
	c, negated := r.positive(c)
	for f := s.known; f != nil; f = f.before {
		if f.condition == c {
			return f.value ^ negated, true
		}
	}
	return 0, false
}

// under returns a state in which it is also known that a condition has a value.
func (r *run) under(s state, c, value int) state {
	c, negated := r.positive(c)
	s.known = &fact{c, value ^ negated, s.known}
	return s
}

// positive returns the condition of which another one is the negation, and 1; or this other one, and 0.
func (r *run) positive(c int) (int, int) {
	negated := 0
	for {
		x, _ := r.table.Node(c)
		if x.Op != api.OpNot {
			return c, negated
		}
		c, negated = x.Args[0], 1-negated
	}
}
