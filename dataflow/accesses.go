package dataflow

import (
	"slices"

	"assessor/api"
	"assessor/tree"
)

// view is a procedure with its flow, and the nodes of its program by their numbers.
type view struct {
	program   api.Program
	procedure api.Procedure
	nodes     []api.Node
	flow      api.Flow
}

func see(p api.Program, procedure int, f api.Flow) *view {
	v := &view{program: p, procedure: p.Procedures[procedure], flow: f}
	v.list(p.Tree)
	return v
}

// list notes a node and all below it.
func (v *view) list(n api.Node) {
	v.nodes = append(v.nodes, n)
	for _, k := range n.Kids {
		v.list(k)
	}
}

// site is where an access happens: the kind of a point, and that of the node of its statement (NodeNone if it has none).
type site struct{ point, node int }

// finder finds the access of a point, whose statement is the node with a number.
type finder func(v *view, number int) api.Access

// finders returns the functions that find the accesses at all sites.
func finders() map[site]finder {
	return map[site]finder{
		{api.PointEntry, api.NodeNone}:    (*view).enter,
		{api.PointExit, api.NodeNone}:     (*view).leave,
		{api.PointPlain, api.NodeVar}:     (*view).declare,
		{api.PointPlain, api.NodeAssign}:  (*view).assign,
		{api.PointPlain, api.NodeDo}:      (*view).do,
		{api.PointPlain, api.NodeAssert}:  (*view).read,
		{api.PointReturn, api.NodeReturn}: (*view).read,
		{api.PointTest, api.NodeIf}:       (*view).read,
		{api.PointTest, api.NodeWhile}:    (*view).read,
		{api.PointBound, api.NodeFor}:     (*view).bound,
		{api.PointStep, api.NodeFor}:      (*view).step,
	}
}

// accesses returns the accesses of all points.
func (v *view) accesses() []api.Access {
	find := finders()
	var l []api.Access
	for _, p := range v.flow.Points {
		at := site{point: p.Kind}
		if p.Node >= 0 {
			at.node = v.nodes[p.Node].Kind
		}
		a := find[at](v, p.Node)
		a.Whole = a.Whole && len(a.Defines) > 0
		l = append(l, a)
	}
	return l
}

// varParameters returns the indices of the var parameters of a procedure.
func varParameters(x api.Procedure) []int {
	var l []int
	for i, v := range x.Variables[:x.Parameters] {
		if v.Var {
			l = append(l, i)
		}
	}
	return l
}

// named returns the variables that are named by the kids from from up to, but not including, to of a node.
func (v *view) named(number, from, to int) []int {
	var l []int
	at := number + 1
	for i, k := range v.nodes[number].Kids[:to] {
		next := at + tree.Count(k)
		if i >= from {
			l = append(l, v.program.Names[at:next]...)
		}
		at = next
	}
	return set(l)
}

// set returns the numbers of a new list that are not negative, in increasing order, each once.
func set(l []int) []int {
	l = slices.DeleteFunc(l, func(i int) bool { return i < 0 })
	slices.Sort(l)
	return slices.Compact(l)
}

func (v *view) enter(int) api.Access {
	a := api.Access{Whole: true}
	for i := range v.procedure.Parameters {
		a.Defines = append(a.Defines, i)
	}
	return a
}

func (v *view) leave(int) api.Access {
	return api.Access{Uses: varParameters(v.procedure)}
}

func (v *view) declare(number int) api.Access {
	return api.Access{Uses: v.named(number, 1, 2), Defines: []int{v.program.Names[number]}, Whole: true}
}

func (v *view) assign(number int) api.Access {
	place := number + 1
	if v.nodes[place].Kind == api.NodeName {
		return api.Access{Uses: v.named(number, 1, 2), Defines: []int{v.program.Names[place]}, Whole: true}
	}
	// The first kid of an element, or of a field, names the variable.
	return api.Access{Uses: v.named(number, 0, 2), Defines: []int{v.program.Names[place+1]}}
}

func (v *view) do(number int) api.Access {
	n := v.nodes[number]
	a := api.Access{Uses: v.named(number, 0, len(n.Kids)), Whole: true}
	for _, x := range v.program.Procedures {
		if x.Name != n.Text {
			continue
		}
		for _, i := range varParameters(x) {
			a.Defines = append(a.Defines, v.named(number, i, i+1)...)
		}
	}
	slices.Sort(a.Defines)
	return a
}

// read finds the access of a point that only reads the first kid of its statement.
func (v *view) read(number int) api.Access {
	return api.Access{Uses: v.named(number, 0, 1)}
}

func (v *view) bound(number int) api.Access {
	return api.Access{Uses: v.named(number, 0, 2), Defines: []int{v.program.Names[number]}, Whole: true}
}

func (v *view) step(number int) api.Access {
	variable := v.program.Names[number]
	return api.Access{Uses: []int{variable}, Defines: []int{variable}}
}
