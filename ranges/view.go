package ranges

import (
	"strconv"

	"assessor/api"
	"assessor/value"
)

// source is a program with its nodes, and the numbers of their kids, by their numbers.
type source struct {
	program api.Program
	nodes   []api.Node
	kids    [][]int
}

func list(p api.Program) *source {
	s := &source{program: p}
	var visit func(n api.Node)
	visit = func(n api.Node) {
		number := len(s.nodes)
		s.nodes, s.kids = append(s.nodes, n), append(s.kids, nil)
		for _, k := range n.Kids {
			s.kids[number] = append(s.kids[number], len(s.nodes))
			visit(k)
		}
	}
	visit(p.Tree)
	return s
}

// view is a procedure for ints of a width, with the functions for all operators.
type view struct {
	*source
	procedure  api.Procedure
	width      int
	unary      map[string]func(api.Range) api.Range
	binary     map[string]operation
	narrowings map[string]operation
}

func see(p api.Program, procedure, width int) *view {
	v := &view{source: list(p), procedure: p.Procedures[procedure], width: width, narrowings: narrowings()}
	v.unary = map[string]func(api.Range) api.Range{"-": v.negative, "not": opposite}
	v.binary = v.operations()
	return v
}

// widest returns the range of a type, and {0, 0} for a type that has none.
func (v *view) widest(t api.Type) api.Range {
	switch t.Kind {
	case api.TypeInt:
		return v.ints()
	case api.TypeBool:
		return api.Range{Lo: 0, Hi: 1}
	}
	return api.Range{}
}

// ints returns the range of the type int.
func (v *view) ints() api.Range {
	return api.Range{Lo: value.Least(v.width), Hi: value.Greatest(v.width)}
}

// isRanged reports whether the type of a variable has a range.
func (v *view) isRanged(variable int) bool {
	return v.widest(v.procedure.Variables[variable].Type) != api.Range{}
}

// isStore reports whether a list has an interval for each of some variables.
func (v *view) isStore(variables []api.Variable, l []api.Range) bool {
	if len(l) != len(variables) {
		return false
	}
	for i, r := range l {
		if r.Lo > r.Hi || !contains(v.widest(variables[i].Type), r) {
			return false
		}
	}
	return true
}

// contains reports whether an interval contains another one.
func contains(r, part api.Range) bool { return r.Lo <= part.Lo && part.Hi <= r.Hi }

// only returns the interval that contains only one number.
func only(n int) api.Range { return api.Range{Lo: n, Hi: n} }

// both returns the least interval that contains two others.
func both(a, b api.Range) api.Range { return api.Range{Lo: min(a.Lo, b.Lo), Hi: max(a.Hi, b.Hi)} }

// bit returns the number that a truth value is.
func bit(truth bool) int {
	if truth {
		return 1
	}
	return 0
}

// interval returns the interval of an expression for a store.
func (v *view) interval(number int, store []api.Range) api.Range {
	n, kids := v.nodes[number], v.kids[number]
	switch n.Kind {
	case api.NodeNumber:
		digits, _ := strconv.Atoi(n.Text)
		return only(value.Wrap(v.width, digits))
	case api.NodeBool:
		return only(bit(n.Text == "true"))
	case api.NodeLen:
		return only(value.Wrap(v.width, v.program.Types[kids[0]].Len))
	case api.NodeName:
		return store[v.program.Names[number]]
	case api.NodeUnary:
		return v.unary[n.Text](v.interval(kids[0], store))
	case api.NodeBinary:
		return v.binary[n.Text](v.interval(kids[0], store), v.interval(kids[1], store))
	}
	return v.widest(v.program.Types[number])
}
