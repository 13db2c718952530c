package symbolic

import (
	"assessor/api"
	"assessor/simplify"
	"assessor/value"
)

// must returns a node, unless there would be too many.
func must(i int, e api.Errno) int {
	if e != api.OK {
		panic(tooLarge{})
	}
	return i
}

func (r *run) truth(n int) int { return must(r.table.Make(api.Term{Op: api.OpTruth, Value: n})) }

// number returns the constant that is a number modulo the width.
func (r *run) number(n int) int {
	return must(r.table.Make(api.Term{Op: api.OpNumber, Value: value.Wrap(r.bounds.Width, n)}))
}

// apply returns the application of an operator to nodes, which is always the same.
func (r *run) apply(op int, args ...int) int {
	key := [4]int{op}
	copy(key[1:], args)
	i, ok := r.applied[key]
	if !ok {
		i = must(simplify.Apply(r.table, op, args...))
		r.applied[key] = i
	}
	return i
}

func (r *run) not(c int) int { return r.apply(api.OpNot, c) }

func (r *run) less(a, b int) int { return r.apply(api.OpLess, a, b) }

// equal returns whether two scalars of one sort are equal.
func (r *run) equal(a, b int) int {
	if r.isCondition(a) {
		return r.apply(api.OpSame, a, b)
	}
	return r.apply(api.OpEqual, a, b)
}

func (r *run) isCondition(i int) bool {
	sort, _ := r.table.Sort(i)
	return sort == api.SortBool
}

// is reports whether a node is the constant with a value.
func (r *run) is(i, value int) bool {
	n, ok := simplify.Constant(r.table, i)
	return ok && n == value
}

// selected returns the scalars of one list where a condition has the value 1, and those of another list where it has the value 0.
func (r *run) selected(c int, l, other []int) []int {
	all := make([]int, len(l))
	for i, a := range l {
		switch b := other[i]; {
		case a == b:
			all[i] = a
		case r.isCondition(a):
			all[i] = r.apply(api.OpPick, c, a, b)
		default:
			all[i] = r.apply(api.OpChoose, c, a, b)
		}
	}
	return all
}

// zeros returns a scalar with the value 0 for each of some sorts.
func (r *run) zeros(sorts []int) []int {
	l := make([]int, len(sorts))
	for i, sort := range sorts {
		if sort == api.SortBool {
			l[i] = r.truth(0)
		} else {
			l[i] = r.number(0)
		}
	}
	return l
}

// binaries returns the operators of the language on two scalars, but for those that do not always evaluate both.
func (r *run) binaries() map[string]func(a, b int) int {
	plain := func(op int) func(a, b int) int {
		return func(a, b int) int { return r.apply(op, a, b) }
	}
	return map[string]func(a, b int) int{
		"+":  plain(api.OpAdd),
		"-":  plain(api.OpSub),
		"*":  plain(api.OpMul),
		"/":  plain(api.OpDiv),
		"%":  plain(api.OpRem),
		"==": r.equal,
		"!=": func(a, b int) int { return r.not(r.equal(a, b)) },
		"<":  r.less,
		"<=": func(a, b int) int { return r.not(r.less(b, a)) },
		">":  func(a, b int) int { return r.less(b, a) },
		">=": func(a, b int) int { return r.not(r.less(a, b)) },
	}
}

// last returns the greatest index of an array that is an int of the width.
func (r *run) last(array []int) int { return min(len(array)-1, value.Greatest(r.bounds.Width)) }

// outside returns whether an array has no element with an index.
func (r *run) outside(array []int, index int) int {
	negative, beyond := r.less(index, r.number(0)), r.less(r.number(r.last(array)), index)
	return r.apply(api.OpOr, negative, beyond)
}

// hits returns whether an index is a number.
func (r *run) hits(index, i int) int { return r.apply(api.OpEqual, index, r.number(i)) }

// element returns the element of an array with an index that is not outside.
func (r *run) element(array []int, index int) int {
	x := array[0]
	for i := 1; i <= r.last(array); i++ {
		x = r.apply(api.OpChoose, r.hits(index, i), array[i], x)
	}
	return x
}

// replace puts a scalar into the place of the element of an array with an index that is not outside.
func (r *run) replace(array []int, index, x int) {
	for i := range r.last(array) + 1 {
		array[i] = r.apply(api.OpChoose, r.hits(index, i), x, array[i])
	}
}
