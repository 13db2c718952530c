package bitvec

import "assessor/api"

// shape is the sort of nodes with an operator, and of the arguments that they need.
type shape struct {
	sort, count int
	args        [3]int
}

var shapes = [...]shape{
	api.OpInput:  {sort: api.SortInt},
	api.OpFlag:   {sort: api.SortBool},
	api.OpNumber: {sort: api.SortInt},
	api.OpTruth:  {sort: api.SortBool},
	api.OpNeg:    {api.SortInt, 1, [3]int{api.SortInt}},
	api.OpAdd:    {api.SortInt, 2, [3]int{api.SortInt, api.SortInt}},
	api.OpSub:    {api.SortInt, 2, [3]int{api.SortInt, api.SortInt}},
	api.OpMul:    {api.SortInt, 2, [3]int{api.SortInt, api.SortInt}},
	api.OpDiv:    {api.SortInt, 2, [3]int{api.SortInt, api.SortInt}},
	api.OpRem:    {api.SortInt, 2, [3]int{api.SortInt, api.SortInt}},
	api.OpChoose: {api.SortInt, 3, [3]int{api.SortBool, api.SortInt, api.SortInt}},
	api.OpNot:    {api.SortBool, 1, [3]int{api.SortBool}},
	api.OpAnd:    {api.SortBool, 2, [3]int{api.SortBool, api.SortBool}},
	api.OpOr:     {api.SortBool, 2, [3]int{api.SortBool, api.SortBool}},
	api.OpSame:   {api.SortBool, 2, [3]int{api.SortBool, api.SortBool}},
	api.OpPick:   {api.SortBool, 3, [3]int{api.SortBool, api.SortBool, api.SortBool}},
	api.OpEqual:  {api.SortBool, 2, [3]int{api.SortInt, api.SortInt}},
	api.OpLess:   {api.SortBool, 2, [3]int{api.SortInt, api.SortInt}},
}

// possible reports whether the table could have a node.
func (t *Table) possible(x api.Term) bool {
	// A table that New did not make has no width, and so no nodes.
	if !isWidth(t.width) || x.Op < 0 || x.Op >= len(shapes) || !t.valued(x) {
		return false
	}
	s := shapes[x.Op]
	used := api.Term{Op: x.Op, Value: x.Value}
	for k, sort := range s.args[:s.count] {
		if has, ok := t.Sort(x.Args[k]); !ok || has != sort {
			return false
		}
		used.Args[k] = x.Args[k]
	}
	return x == used
}

// valued reports whether a node has a Value that its operator allows.
func (t *Table) valued(x api.Term) bool {
	switch x.Op {
	case api.OpInput, api.OpFlag:
		return 0 <= x.Value && x.Value < api.MaxScalars
	case api.OpNumber:
		return t.isInteger(x.Value)
	case api.OpTruth:
		return isTruth(x.Value)
	}
	return x.Value == 0
}

func (t *Table) isInteger(n int) bool { return n == Wrap(t.width, n) }

func isTruth(n int) bool { return n == 0 || n == 1 }

func isInput(x api.Term) bool { return x.Op == api.OpInput || x.Op == api.OpFlag }

// fits reports whether the input of a node, if it is one, is there and has its sort.
func (t *Table) fits(x api.Term, input []int) bool {
	switch {
	case !isInput(x):
		return true
	case x.Value >= len(input):
		return false
	case x.Op == api.OpFlag:
		return isTruth(input[x.Value])
	}
	return t.isInteger(input[x.Value])
}

// value returns the value of a node if the nodes before it that it needs have some values.
func (t *Table) value(x api.Term, values, input []int) int {
	a, b, c := values[x.Args[0]], values[x.Args[1]], values[x.Args[2]]
	switch x.Op {
	case api.OpInput, api.OpFlag:
		return input[x.Value]
	case api.OpNumber, api.OpTruth:
		return x.Value
	case api.OpChoose, api.OpPick:
		if a == 1 {
			return b
		}
		return c
	case api.OpNot:
		return 1 - a
	case api.OpAnd:
		return min(a, b)
	case api.OpOr:
		return max(a, b)
	case api.OpSame, api.OpEqual:
		return truth(a == b)
	case api.OpLess:
		return truth(a < b)
	}
	return t.arithmetic(x.Op, a, b)
}

// arithmetic returns the result of an operator that makes an integer of integers.
func (t *Table) arithmetic(op, a, b int) int {
	quotient, remainder := Divide(t.width, a, b)
	switch op {
	case api.OpNeg:
		return Wrap(t.width, -a)
	case api.OpAdd:
		return Wrap(t.width, a+b)
	case api.OpSub:
		return Wrap(t.width, a-b)
	case api.OpMul:
		return Wrap(t.width, a*b)
	case api.OpDiv:
		return quotient
	}
	return remainder
}

func truth(holds bool) int {
	if holds {
		return 1
	}
	return 0
}
