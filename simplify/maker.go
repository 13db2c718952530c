package simplify

import (
	"slices"

	"assessor/api"
	"assessor/bitvec"
)

// operands are the sorts of the arguments that operators need; nothing for those without any.
var operands = [...][]int{
	api.OpNeg:    {api.SortInt},
	api.OpAdd:    {api.SortInt, api.SortInt},
	api.OpSub:    {api.SortInt, api.SortInt},
	api.OpMul:    {api.SortInt, api.SortInt},
	api.OpDiv:    {api.SortInt, api.SortInt},
	api.OpRem:    {api.SortInt, api.SortInt},
	api.OpChoose: {api.SortBool, api.SortInt, api.SortInt},
	api.OpNot:    {api.SortBool},
	api.OpAnd:    {api.SortBool, api.SortBool},
	api.OpOr:     {api.SortBool, api.SortBool},
	api.OpSame:   {api.SortBool, api.SortBool},
	api.OpPick:   {api.SortBool, api.SortBool, api.SortBool},
	api.OpEqual:  {api.SortInt, api.SortInt},
	api.OpLess:   {api.SortInt, api.SortInt},
}

// fit reports whether an operator can be applied to some numbers.
func fit(t *bitvec.Table, op int, args []int) bool {
	if op < api.OpNeg || op > api.OpLess || len(args) != len(operands[op]) {
		return false
	}
	for k, a := range args {
		if sort, ok := t.Sort(a); !ok || sort != operands[op][k] {
			return false
		}
	}
	return true
}

// maker makes applications in a table. Its first error stays, and from then on numbers of nodes do not matter.
type maker struct {
	table *bitvec.Table
	rules map[int]rule
	err   api.Errno
}

func newMaker(t *bitvec.Table) *maker {
	m := &maker{table: t}
	m.rules = m.allRules()
	return m
}

// end returns the number of a node if there was no error.
func (m *maker) end(i int) (int, api.Errno) {
	if m.err != api.OK {
		return 0, m.err
	}
	return i, api.OK
}

// apply returns the application of an operator to nodes that fit it.
func (m *maker) apply(op int, args ...int) int {
	if m.err != api.OK {
		return 0
	}
	if !slices.ContainsFunc(args, m.isVariable) {
		return m.fold(op, args)
	}
	x := api.Term{Op: op}
	copy(x.Args[:], args)
	if i, ok := m.rules[op](x.Args[0], x.Args[1], x.Args[2]); ok {
		return i
	}
	return m.node(x)
}

// fold returns the constant with the value of an operator for constants.
func (m *maker) fold(op int, args []int) int {
	// Nodes that are needed for the value only are not to be added to the table.
	apart, _ := bitvec.New(m.table.Width())
	x := api.Term{Op: op}
	for k, a := range args {
		constant, _ := m.table.Node(a)
		x.Args[k], _ = apart.Make(constant)
	}
	i, _ := apart.Make(x)
	value, _ := apart.Eval(i, nil)
	if sort, _ := apart.Sort(i); sort == api.SortBool {
		return m.truth(value)
	}
	return m.number(value)
}

func (m *maker) number(n int) int { return m.node(api.Term{Op: api.OpNumber, Value: n}) }

func (m *maker) truth(n int) int { return m.node(api.Term{Op: api.OpTruth, Value: n}) }

// node returns the number of a node, which is added if it is new.
func (m *maker) node(x api.Term) int {
	i, e := m.table.Make(x)
	if e != api.OK {
		m.err = e
	}
	return i
}

// isVariable reports whether a node is no constant.
func (m *maker) isVariable(i int) bool {
	_, ok := Constant(m.table, i)
	return !ok
}

// is reports whether a node is the constant with a value.
func (m *maker) is(i, value int) bool {
	n, ok := Constant(m.table, i)
	return ok && n == value
}

// under returns the first argument of a node, and whether it has an operator.
func (m *maker) under(op, i int) (int, bool) {
	x, _ := m.table.Node(i)
	return x.Args[0], x.Op == op
}
