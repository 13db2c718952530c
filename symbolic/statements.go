package symbolic

import "assessor/api"

// statements returns what executes each kind of statement.
func statements() map[int]execution {
	return map[int]execution{
		api.NodeVar:    (*run).define,
		api.NodeAssign: (*run).assign,
		api.NodeIf:     (*run).choose,
		api.NodeWhile:  (*run).repeat,
		api.NodeFor:    (*run).count,
		api.NodeReturn: (*run).finish,
		api.NodeAssert: (*run).assert,
		api.NodeDo:     (*run).do,
	}
}

// block executes the statements of a block; none for NodeNone.
func (r *run) block(s state, n *node) []state {
	l := s.goesOn()
	for _, k := range n.kids {
		l = r.then(l, func(s state) []state { return r.statements[k.Kind](r, s, k) })
	}
	return r.then(l, func(s state) []state {
		for _, k := range n.kids {
			if k.Kind == api.NodeVar {
				r.forget(s, k)
			}
		}
		return s.goesOn()
	})
}

// forget clears a variable that is not visible any more, so that states do not differ in it when they are merged.
func (r *run) forget(s state, n *node) {
	copy(s.variable(n), r.zeros(s.procedure.sorts[n.from:n.to]))
}

func (r *run) define(s state, n *node) []state { return r.set(s, n, n.kids[1]) }

// set stores an expression in the variable that a node declares or names.
func (r *run) set(s state, n, expression *node) []state {
	return r.then(r.evaluate(s, expression), func(s state) []state {
		copy(s.variable(n), s.take(n.to-n.from))
		return s.goesOn()
	})
}

func (r *run) assign(s state, n *node) []state {
	place, expression := n.kids[0], n.kids[1]
	switch place.Kind {
	case api.NodeIndex:
		// That the index is wrong shows only behind the expression.
		return r.then(r.evaluate(s, place.kids[1], expression), func(s state) []state {
			x := s.pop()
			return r.inside(s, place, func(_ *state, array []int, index int) { r.replace(array, index, x) })
		})
	case api.NodeMember:
		return r.then(r.evaluate(s, expression), func(s state) []state {
			*r.field(s, place) = s.pop()
			return s.goesOn()
		})
	}
	return r.set(s, place, expression)
}

// demand goes on with a function, unless a condition has the value 1: then there is a fault.
func (r *run) demand(s state, fault, c int, next func(s state) []state) []state {
	return r.divide(s, c, func(s state) []state { return s.ends(fault) }, next)
}

// decide goes on with one of two functions, by the value of an expression.
func (r *run) decide(s state, n *node, yes, no func(s state) []state) []state {
	return r.then(r.evaluate(s, n), func(s state) []state {
		c := s.pop()
		return r.divide(s, c, yes, no)
	})
}

func (r *run) choose(s state, n *node) []state {
	other := n.kids[2]
	yes := func(s state) []state { return r.block(s, n.kids[1]) }
	no := func(s state) []state { return r.block(s, other) }
	if other.Kind == api.NodeIf {
		no = func(s state) []state { return r.choose(s, other) }
	}
	return r.decide(s, n.kids[0], yes, no)
}

func (r *run) repeat(s state, n *node) []state { return r.rounds(s, n, 0) }

// rounds executes a while behind some rounds.
func (r *run) rounds(s state, n *node, done int) []state {
	further := r.limited(done, func(s state) []state {
		return r.then(r.block(s, n.kids[1]), func(s state) []state { return r.rounds(s, n, done+1) })
	})
	return r.decide(s, n.kids[0], further, state.goesOn)
}

// limited returns a function for a further round of a loop, behind some rounds: a fault if there must not be one.
func (r *run) limited(done int, further func(s state) []state) func(s state) []state {
	if done < r.bounds.Loops {
		return further
	}
	return func(s state) []state { return s.ends(api.FaultLimit) }
}

func (r *run) count(s state, n *node) []state {
	return r.then(r.evaluate(s, n.kids[:2]...), func(s state) []state {
		l := s.take(2)
		first, last := l[0], l[1]
		var rounds func(s state, more, done int) []state
		rounds = func(s state, more, done int) []state {
			further := r.limited(done, func(s state) []state {
				i := r.apply(api.OpAdd, first, r.number(done))
				s.variable(n)[0] = i
				// There is no int behind the greatest one, so that i is compared, and not the next one.
				return r.then(r.block(s, n.kids[2]), func(s state) []state { return rounds(s, r.less(i, last), done+1) })
			})
			return r.divide(s, more, further, func(s state) []state {
				r.forget(s, n)
				return s.goesOn()
			})
		}
		return rounds(s, r.not(r.less(last, first)), 0)
	})
}

func (r *run) finish(s state, n *node) []state {
	if !s.procedure.hasResult {
		return s.returns()
	}
	return r.then(r.evaluate(s, n.kids[0]), func(s state) []state { return s.ends(api.FaultNone, s.values...) })
}

func (r *run) assert(s state, n *node) []state {
	fails := func(s state) []state { return s.ends(api.FaultAssert) }
	return r.decide(s, n.kids[0], state.goesOn, fails)
}

func (r *run) do(s state, n *node) []state {
	return r.then(r.call(s, n), func(s state) []state {
		called := r.called(n)
		l := s.take(len(called.outputs))
		for i, k := range n.kids {
			if called.isVar[i] {
				l = l[copy(s.variable(k), l):]
			}
		}
		return s.goesOn()
	})
}
