package interpreter

import (
	"strconv"

	"assessor/api"
	"assessor/checker"
	"assessor/types"
	"assessor/value"
)

// evaluate adds the scalars of an expression to a list.
func (f *frame) evaluate(l []int, number int) []int {
	switch f.nodes[number].Kind {
	case api.NodeName:
		return append(l, f.named(number)...)
	case api.NodeList:
		return f.kids(l, number)
	case api.NodeCall:
		i, ok := checker.Find(f.program, f.nodes[number].Text)
		if !ok {
			return f.kids(l, number)
		}
		return append(l, f.call(i, f.kids(nil, number))...)
	}
	return append(l, f.scalar(number))
}

// kids adds the scalars of all kids of a node to a list.
func (f *frame) kids(l []int, number int) []int {
	k := number + 1
	for range f.nodes[number].Kids {
		l = f.evaluate(l, k)
		k = f.behind[k]
	}
	return l
}

// scalar returns the value of an expression that has one scalar.
func (f *frame) scalar(number int) int {
	n := f.nodes[number]
	switch n.Kind {
	case api.NodeName:
		return f.named(number)[0]
	case api.NodeIndex:
		return *f.element(number, f.scalar(f.kid(number, 1)))
	case api.NodeMember:
		return *f.field(number)
	case api.NodeLen:
		return value.Wrap(f.bounds.Width, len(f.named(f.kid(number, 0))))
	case api.NodeNumber:
		digits, _ := strconv.Atoi(n.Text)
		return value.Wrap(f.bounds.Width, digits)
	case api.NodeBool:
		if n.Text == "true" {
			return 1
		}
		return 0
	case api.NodeUnary:
		result, _ := value.Unary(f.bounds.Width, n.Text, f.scalar(f.kid(number, 0)))
		return result
	case api.NodeBinary:
		return f.binary(number, n.Text)
	}
	return f.evaluate(nil, number)[0]
}

func (f *frame) binary(number int, operator string) int {
	left := f.scalar(f.kid(number, 0))
	if operator == "and" && left == 0 || operator == "or" && left == 1 {
		return left
	}
	right := f.scalar(f.kid(number, 1))
	result, kind, _ := value.Binary(f.bounds.Width, operator, left, right)
	if kind != api.FaultNone {
		fail(kind, number)
	}
	return result
}

// element returns the element of an array that a NodeIndex means with an index.
func (f *frame) element(number, index int) *int {
	array := f.named(f.kid(number, 0))
	if index < 0 || index >= len(array) {
		fail(api.FaultIndex, number)
	}
	return &array[index]
}

// field returns the field of a record that a NodeMember means.
func (f *frame) field(number int) *int {
	_, i, _, _ := types.Member(f.program.Records, f.nodes[number].Text)
	return &f.named(f.kid(number, 0))[i]
}
