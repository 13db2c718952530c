package simplify

import "assessor/api"

// rule returns the result of the first rule of an operator whose form its arguments have, and whether there is one. Arguments that the operator does not need are 0.
type rule func(a, b, c int) (int, bool)

// allRules returns the rules of all operators.
func (m *maker) allRules() map[int]rule {
	return map[int]rule{
		api.OpNeg:    m.twice(api.OpNeg),
		api.OpAdd:    m.sum,
		api.OpSub:    m.difference,
		api.OpMul:    m.product,
		api.OpDiv:    m.quotient,
		api.OpRem:    m.remainder,
		api.OpChoose: m.choice(api.OpChoose),
		api.OpNot:    m.twice(api.OpNot),
		api.OpAnd:    m.junction(0),
		api.OpOr:     m.junction(1),
		api.OpSame:   m.same,
		api.OpPick:   m.pick,
		api.OpEqual:  m.equal,
		api.OpLess:   m.less,
	}
}

// twice returns the rule of an operator that undoes itself.
func (m *maker) twice(op int) rule {
	return func(a, _, _ int) (int, bool) { return m.under(op, a) }
}

func (m *maker) sum(a, b, _ int) (int, bool) {
	switch {
	case m.is(a, 0):
		return b, true
	case m.is(b, 0):
		return a, true
	}
	if k, ok := m.under(api.OpNeg, b); ok {
		return m.apply(api.OpSub, a, k), true
	}
	if k, ok := m.under(api.OpNeg, a); ok {
		return m.apply(api.OpSub, b, k), true
	}
	return 0, false
}

func (m *maker) difference(a, b, _ int) (int, bool) {
	switch {
	case a == b:
		return m.number(0), true
	case m.is(b, 0):
		return a, true
	case m.is(a, 0):
		return m.apply(api.OpNeg, b), true
	}
	if k, ok := m.under(api.OpNeg, b); ok {
		return m.apply(api.OpAdd, a, k), true
	}
	return 0, false
}

func (m *maker) product(a, b, _ int) (int, bool) {
	switch {
	case m.is(a, 0) || m.is(b, 0):
		return m.number(0), true
	case m.is(a, 1):
		return b, true
	case m.is(b, 1):
		return a, true
	case m.is(a, -1):
		return m.apply(api.OpNeg, b), true
	case m.is(b, -1):
		return m.apply(api.OpNeg, a), true
	}
	return 0, false
}

func (m *maker) quotient(a, b, _ int) (int, bool) {
	switch {
	case m.is(a, 0) || m.is(b, 0):
		return m.number(0), true
	case m.is(b, 1):
		return a, true
	case m.is(b, -1):
		return m.apply(api.OpNeg, a), true
	}
	return 0, false
}

func (m *maker) remainder(a, b, _ int) (int, bool) {
	switch {
	case m.is(b, 0):
		return a, true
	case m.is(a, 0) || m.is(b, 1) || m.is(b, -1) || a == b:
		return m.number(0), true
	}
	return 0, false
}

// choice returns the rule that OpChoose and OpPick share.
func (m *maker) choice(op int) rule {
	return func(c, a, b int) (int, bool) {
		switch {
		case m.is(c, 1) || a == b:
			return a, true
		case m.is(c, 0):
			return b, true
		}
		if d, ok := m.under(api.OpNot, c); ok {
			return m.apply(op, d, b, a), true
		}
		return 0, false
	}
}

func (m *maker) pick(c, a, b int) (int, bool) {
	if i, ok := m.choice(api.OpPick)(c, a, b); ok {
		return i, true
	}
	switch {
	case m.is(a, 1):
		return m.apply(api.OpOr, c, b), true
	case m.is(b, 0):
		return m.apply(api.OpAnd, c, a), true
	case m.is(a, 0) && m.is(b, 1):
		return m.apply(api.OpNot, c), true
	}
	return 0, false
}

// junction returns the rule of the operator that has a truth value as soon as one of its arguments has it: 0 for OpAnd, 1 for OpOr.
func (m *maker) junction(truth int) rule {
	return func(a, b, _ int) (int, bool) {
		switch {
		case m.is(a, truth) || m.is(b, truth):
			return m.truth(truth), true
		case m.is(a, 1-truth):
			return b, true
		case m.is(b, 1-truth) || a == b:
			return a, true
		case m.opposite(a, b):
			return m.truth(truth), true
		}
		return 0, false
	}
}

func (m *maker) same(a, b, _ int) (int, bool) {
	switch {
	case a == b:
		return m.truth(1), true
	case m.is(a, 1):
		return b, true
	case m.is(b, 1):
		return a, true
	case m.is(a, 0):
		return m.apply(api.OpNot, b), true
	case m.is(b, 0):
		return m.apply(api.OpNot, a), true
	case m.opposite(a, b):
		return m.truth(0), true
	}
	return 0, false
}

func (m *maker) equal(a, b, _ int) (int, bool) {
	if a == b {
		return m.truth(1), true
	}
	return 0, false
}

func (m *maker) less(a, b, _ int) (int, bool) {
	least := -1 << (m.table.Width() - 1)
	if a == b || m.is(b, least) || m.is(a, -1-least) {
		return m.truth(0), true
	}
	return 0, false
}

// opposite reports whether one of two conditions is the negation of the other one.
func (m *maker) opposite(a, b int) bool {
	right, isRight := m.under(api.OpNot, b)
	left, isLeft := m.under(api.OpNot, a)
	return isRight && right == a || isLeft && left == b
}
