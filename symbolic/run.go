package symbolic

import (
	"slices"

	"assessor/api"
	"assessor/bitvec"
)

// run is a run of a program on terms. If it may have several paths, each state goes on by itself where the run divides. Otherwise states are merged as soon as possible, so that there is at most one for each end.
type run struct {
	program     api.Program
	bounds      api.Bounds
	table       *bitvec.Table
	procedures  []procedure
	statements  map[int]execution
	expressions map[int]execution
	operators   map[string]func(a, b int) int
	applied     map[[4]int]int // the nodes for operators with their arguments
	most        int            // how many paths there may be; 0: states are merged
	divisions   int            // of paths
}

// execution executes a statement, or evaluates an expression and pushes its scalars; it returns the states behind it. It may change the state that it gets.
type execution func(r *run, s state, n *node) []state

// begin returns a run in which nothing has been done.
func begin(t *bitvec.Table, p api.Program, b api.Bounds, most int) *run {
	r := &run{program: p, bounds: b, table: t, most: most, procedures: procedures(p), applied: map[[4]int]int{}}
	r.statements, r.expressions, r.operators = statements(), expressions(), r.binaries()
	return r
}

// outcome returns the outcome of a procedure for an input of nodes.
func (r *run) outcome(procedure int, input []int) api.Symbolic {
	l := r.start(procedure, input)
	var outcome api.Symbolic
	for fault := api.FaultNone; fault <= api.FaultLimit; fault++ {
		condition := r.truth(0)
		if i := indexOf(l, fault); i >= 0 {
			condition = l[i].condition
		}
		outcome.Fault = append(outcome.Fault, condition)
	}
	if i := indexOf(l, api.FaultNone); i >= 0 {
		outcome.Out = l[i].values
	} else {
		outcome.Out = r.zeros(r.procedures[procedure].results)
	}
	return outcome
}

// paths returns the paths of a procedure for an input of nodes.
func (r *run) paths(procedure int, input []int) []api.Path {
	var l []api.Path
	for _, s := range r.start(procedure, input) {
		l = append(l, api.Path{Condition: s.condition, Fault: s.end, Out: s.values})
	}
	return l
}

func (r *run) start(procedure int, input []int) []state {
	return r.enter(state{condition: r.truth(1)}, &r.procedures[procedure], input)
}

// enter runs a procedure with some scalars, called in a state, and returns how it ends.
func (r *run) enter(s state, x *procedure, input []int) []state {
	s.end, s.procedure, s.values = running, x, nil
	s.slots = slices.Concat(input, r.zeros(x.sorts[len(input):]))
	return r.then(r.block(s, x.block), func(s state) []state {
		if x.hasResult {
			return s.ends(api.FaultReturn)
		}
		return s.returns()
	})
}

// then lets a function go on with each state that has not ended.
func (r *run) then(l []state, next func(s state) []state) []state {
	var all []state
	for _, s := range l {
		if s.end == running {
			all = append(all, next(s)...)
		} else {
			all = append(all, s)
		}
	}
	if r.most > 0 {
		return all
	}
	return r.gathered(all)
}

// gathered returns one state for each end, if no two of those with one end are ever reached at once.
func (r *run) gathered(l []state) []state {
	var all []state
	for _, s := range l {
		i := indexOf(all, s.end)
		if i < 0 {
			all = append(all, s)
			continue
		}
		x := &all[i]
		x.values = r.selected(x.condition, x.values, s.values)
		x.condition = r.apply(api.OpOr, x.condition, s.condition)
	}
	return all
}

// divide goes on with one function where a condition has the value 1, and with another one where it has the value 0.
func (r *run) divide(s state, c int, yes, no func(s state) []state) []state {
	value, ok := r.value(s, c)
	switch {
	case ok && value == 1:
		return yes(s)
	case ok:
		return no(s)
	}
	a, b := r.under(s.copied(), c, 1), r.under(s, c, 0)
	if r.most > 0 {
		return r.fork(a, b, c, yes, no)
	}
	a.condition = r.truth(1)
	b.condition = a.condition
	return r.merged(s, c, yes(a), no(b))
}

// fork divides the path of two states that differ in a condition only.
func (r *run) fork(a, b state, c int, yes, no func(s state) []state) []state {
	left, right := r.apply(api.OpAnd, a.condition, c), r.apply(api.OpAnd, b.condition, r.not(c))
	switch {
	case r.is(left, 0):
		return no(b)
	case r.is(right, 0):
		return yes(a)
	}
	// No path is ever lost, so that each division leads to a further one.
	r.divisions++
	if r.divisions == r.most {
		panic(tooLarge{})
	}
	a.condition, b.condition = left, right
	return slices.Concat(yes(a), no(b))
}

// merged returns the states behind one that was divided: those of one list where a condition has the value 1, those of the other list where it has the value 0.
func (r *run) merged(from state, c int, yes, no []state) []state {
	var l []state
	for end := running; end <= api.FaultLimit; end++ {
		i, k := indexOf(yes, end), indexOf(no, end)
		if i < 0 && k < 0 {
			continue
		}
		s := state{end: end}
		a, b := r.truth(0), r.truth(0)
		if k >= 0 {
			s, b = no[k], no[k].condition
		}
		if i >= 0 {
			s, a = yes[i], yes[i].condition
		}
		if i >= 0 && k >= 0 {
			s.slots, s.values, s.known = r.selected(c, s.slots, no[k].slots), r.selected(c, s.values, no[k].values), from.known
		}
		s.condition = r.apply(api.OpAnd, from.condition, r.apply(api.OpPick, c, a, b))
		l = append(l, s)
	}
	return l
}
