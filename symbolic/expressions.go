package symbolic

import (
	"strconv"

	"assessor/api"
	"assessor/checker"
	"assessor/types"
)

// expressions returns what evaluates each kind of expression.
func expressions() map[int]execution {
	return map[int]execution{
		api.NodeName:   (*run).name,
		api.NodeIndex:  (*run).index,
		api.NodeMember: (*run).member,
		api.NodeLen:    (*run).length,
		api.NodeNumber: (*run).digits,
		api.NodeBool:   (*run).constant,
		api.NodeList:   (*run).list,
		api.NodeCall:   (*run).call,
		api.NodeUnary:  (*run).unary,
		api.NodeBinary: (*run).binary,
	}
}

// evaluate evaluates expressions, one after the other.
func (r *run) evaluate(s state, l ...*node) []state {
	states := s.goesOn()
	for _, n := range l {
		states = r.then(states, func(s state) []state { return r.expressions[n.Kind](r, s, n) })
	}
	return states
}

// with returns a state in which scalars are pushed, as the only one.
func (s state) with(l ...int) []state {
	s.push(l...)
	return s.goesOn()
}

func (r *run) name(s state, n *node) []state { return s.with(s.variable(n)...) }

func (r *run) index(s state, n *node) []state {
	return r.then(r.evaluate(s, n.kids[1]), func(s state) []state {
		return r.inside(s, n, func(s *state, array []int, index int) { s.push(r.element(array, index)) })
	})
}

// inside pops an index, and goes on with a function if the array of a NodeIndex has an element with this index.
func (r *run) inside(s state, n *node, next func(s *state, array []int, index int)) []state {
	index := s.pop()
	outside := r.outside(s.variable(n.kids[0]), index)
	return r.demand(s, api.FaultIndex, outside, func(s state) []state {
		next(&s, s.variable(n.kids[0]), index)
		return s.goesOn()
	})
}

func (r *run) member(s state, n *node) []state { return s.with(*r.field(s, n)) }

// field returns the slot of the field that a NodeMember means.
func (r *run) field(s state, n *node) *int {
	_, i, _, _ := types.Member(r.program.Records, n.Text)
	return &s.variable(n.kids[0])[i]
}

func (r *run) length(s state, n *node) []state {
	return s.with(r.number(len(s.variable(n.kids[0]))))
}

func (r *run) digits(s state, n *node) []state {
	number, _ := strconv.Atoi(n.Text)
	return s.with(r.number(number))
}

func (r *run) constant(s state, n *node) []state {
	if n.Text == "true" {
		return s.with(r.truth(1))
	}
	return s.with(r.truth(0))
}

func (r *run) list(s state, n *node) []state { return r.evaluate(s, n.kids...) }

// called returns the procedure that a node calls, or nil for the value of a record.
func (r *run) called(n *node) *procedure {
	i, ok := checker.Find(r.program, n.Text)
	if !ok {
		return nil
	}
	return &r.procedures[i]
}

// call evaluates the arguments of a call, and runs the procedure; it pushes what this returns.
func (r *run) call(s state, n *node) []state {
	l := r.evaluate(s, n.kids...)
	x := r.called(n)
	if x == nil {
		return l
	}
	return r.then(l, func(s state) []state {
		input := s.take(x.inputs)
		var back []state
		for _, end := range r.enter(s, x, input) {
			if end.end != api.FaultNone {
				back = append(back, end)
				continue
			}
			there := s.copied()
			there.condition = end.condition
			if r.most > 0 {
				there.known = end.known
			}
			back = append(back, there.with(end.values...)...)
		}
		return back
	})
}

func (r *run) unary(s state, n *node) []state {
	op := api.OpNeg
	if n.Text == "not" {
		op = api.OpNot
	}
	return r.then(r.evaluate(s, n.kids[0]), func(s state) []state {
		x := s.pop()
		return s.with(r.apply(op, x))
	})
}

func (r *run) binary(s state, n *node) []state {
	right := func(s state) []state { return r.evaluate(s, n.kids[1]) }
	switch n.Text {
	case "and":
		return r.decide(s, n.kids[0], right, func(s state) []state { return s.with(r.truth(0)) })
	case "or":
		return r.decide(s, n.kids[0], func(s state) []state { return s.with(r.truth(1)) }, right)
	}
	return r.then(r.evaluate(s, n.kids...), func(s state) []state {
		l := s.take(2)
		a, b := l[0], l[1]
		compute := func(s state) []state { return s.with(r.operators[n.Text](a, b)) }
		if n.Text == "/" || n.Text == "%" {
			return r.demand(s, api.FaultDivide, r.equal(b, r.number(0)), compute)
		}
		return compute(s)
	})
}
