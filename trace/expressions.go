package trace

import (
	"slices"

	"assessor/api"
	"assessor/checker"
	"assessor/interpreter"
)

// evaluate returns the scalars of an expression, and tells the events in it.
func (f *frame) evaluate(number int) []int {
	if f.quiet(number) {
		return f.value(number)
	}
	n := f.nodes[number]
	switch {
	case isConnective(n):
		left := f.test(f.kid(number, 0))
		if (left == 1) == (n.Text == "or") {
			return []int{left}
		}
		return []int{f.test(f.kid(number, 1))}
	case isNot(n):
		f.test(f.kid(number, 0))
		return f.value(number)
	}
	operands := f.kids(number)
	if i, ok := f.called(n); ok {
		return f.call(i, number, f.depth+1, operands).result
	}
	// An expression changes nothing: layer 12 finds the same values of the operands, and that none of them has a fault.
	return f.value(number)
}

// value returns the scalars of an expression, or ends the run with its fault.
func (f *frame) value(number int) []int {
	if f.nodes[number].Kind == api.NodeName {
		// Names are frequent, and their values stand here already.
		from, to := f.named(number)
		return slices.Clone(f.Slots[from:to])
	}
	l, fault, node, _ := interpreter.Evaluate(f.program, number, f.bounds, f.Frame)
	if fault != api.FaultNone {
		f.fail(fault, node)
	}
	return l
}

// scalar returns the value of an expression that has one scalar.
func (f *frame) scalar(number int) int { return f.evaluate(number)[0] }

// test returns the value of a condition, and tells it.
func (f *frame) test(number int) int {
	value := f.scalar(number)
	f.tell(api.Event{Kind: api.EventTest, Node: number, Value: value})
	return value
}

// kids returns the scalars of all kids of a node.
func (f *frame) kids(number int) []int {
	var l []int
	k := number + 1
	for range f.nodes[number].Kids {
		l = append(l, f.evaluate(k)...)
		k = f.behind[k]
	}
	return l
}

// quiet reports whether no events happen in an expression.
func (f *frame) quiet(number int) bool {
	return !slices.ContainsFunc(f.nodes[number:f.behind[number]], func(n *api.Node) bool {
		_, called := f.called(n)
		return called || isConnective(n) || isNot(n)
	})
}

// called returns the index of the procedure that an expression calls.
func (f *frame) called(n *api.Node) (int, bool) {
	if n.Kind != api.NodeCall {
		return 0, false
	}
	return checker.Find(f.program, n.Text)
}

// Keywords are the Text of nothing but operators.

func isConnective(n *api.Node) bool { return n.Text == "and" || n.Text == "or" }

func isNot(n *api.Node) bool { return n.Text == "not" }
