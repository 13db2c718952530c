package symbolic

import (
	"assessor/api"
	"assessor/checker"
	"assessor/types"
)

// node is a node of the tree; from and to are the slots of the variable that it declares or names.
type node struct {
	api.Node
	kids     []*node
	from, to int
}

// tree returns a node, whose number is next, with all that it contains.
func tree(p api.Program, x api.Node, next *int) *node {
	n := &node{Node: x}
	if v, ok := checker.Variable(p, *next); ok {
		n.from, n.to = v.Slot, v.Slot+types.Size(v.Type, p.Records)
	}
	*next++
	for _, k := range x.Kids {
		n.kids = append(n.kids, tree(p, k, next))
	}
	return n
}

// procedure is one of a program.
type procedure struct {
	isVar     []bool // of its parameters
	hasResult bool
	sorts     []int // of its slots
	inputs    int   // how many of these are those of its parameters
	outputs   []int // without a result, those that it returns
	results   []int // the sorts of what it returns
	block     *node
}

// procedures returns those of a program, in order.
func procedures(p api.Program) []procedure {
	var l []procedure
	number := 0
	for _, n := range tree(p, p.Tree, &number).kids {
		if n.Kind == api.NodeProcedure {
			l = append(l, describe(p, len(l), n.kids[2]))
		}
	}
	return l
}

// describe returns the procedure with an index and a block.
func describe(p api.Program, i int, block *node) procedure {
	x := p.Procedures[i]
	d := procedure{
		hasResult: x.Result.Kind != api.TypeNone,
		sorts:     sorts(p, x.Variables),
		inputs:    len(inputSorts(p, i)),
		results:   sorts(p, []api.Variable{{Type: x.Result}}),
		block:     block,
	}
	for _, v := range x.Variables[:x.Parameters] {
		d.isVar = append(d.isVar, v.Var)
		for k := range types.Size(v.Type, p.Records) {
			if v.Var {
				d.outputs = append(d.outputs, v.Slot+k)
				d.results = append(d.results, d.sorts[v.Slot+k])
			}
		}
	}
	return d
}

// sorts returns those of the scalars of some variables; nothing for those without a type.
func sorts(p api.Program, variables []api.Variable) []int {
	var l []int
	for _, v := range variables {
		for _, t := range types.Scalars(p.Records, v.Type) {
			if t.Kind == api.TypeBool {
				l = append(l, api.SortBool)
			} else {
				l = append(l, api.SortInt)
			}
		}
	}
	return l
}
