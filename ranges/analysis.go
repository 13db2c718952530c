package ranges

import (
	"slices"

	"assessor/api"
)

// change returns the store behind a statement with a number for that in front of it, and whether there is one.
type change func(number int, store []api.Range) ([]api.Range, bool)

// analysis finds the stores of a procedure.
type analysis struct {
	*view
	changes map[int]change // by the kinds of statements
	front   [][]api.Range
	arrived []bool
	wait    []int // the points whose stores have grown, and are still to be sent
}

// analyze returns the stores in front of the points of a flow if the entry sends a store.
func analyze(v *view, f api.Flow, store []api.Range) [][]api.Range {
	a := &analysis{view: v, front: make([][]api.Range, len(f.Points)), arrived: make([]bool, len(f.Points))}
	a.changes = map[int]change{
		api.NodeVar:    a.declare,
		api.NodeAssign: a.assign,
		api.NodeDo:     a.do,
		api.NodeAssert: a.assert,
	}
	for _, to := range f.Points[0].Next {
		a.arrive(to, store)
	}
	for len(a.wait) > 0 {
		point, front := f.Points[a.wait[0]], a.front[a.wait[0]]
		a.wait = a.wait[1:]
		for edge, to := range point.Next {
			if sent, ok := a.send(point, edge, front); ok {
				a.arrive(to, sent)
			}
		}
	}
	return a.front
}

// arrive notes that a store arrives at a point.
func (a *analysis) arrive(point int, store []api.Range) {
	grown := slices.Clone(store)
	if a.arrived[point] {
		for i, r := range a.front[point] {
			grown[i] = both(grown[i], r)
		}
		if slices.Equal(grown, a.front[point]) {
			return
		}
	}
	a.front[point], a.arrived[point] = grown, true
	if !slices.Contains(a.wait, point) {
		a.wait = append(a.wait, point)
	}
}

// send returns the store that a point sends over an edge, and whether there is one.
func (a *analysis) send(p api.Point, edge int, store []api.Range) ([]api.Range, bool) {
	switch p.Kind {
	case api.PointTest:
		return a.restrict(a.kids[p.Node][0], edge == 0, store)
	case api.PointBound:
		kids := a.kids[p.Node]
		return with(store, a.program.Names[p.Node], both(a.interval(kids[0], store), a.interval(kids[1], store))), true
	case api.PointPlain:
		return a.changes[a.nodes[p.Node].Kind](p.Node, store)
	}
	return store, true
}

func (a *analysis) declare(number int, store []api.Range) ([]api.Range, bool) {
	return a.set(a.program.Names[number], a.kids[number][1], store), true
}

func (a *analysis) assign(number int, store []api.Range) ([]api.Range, bool) {
	kids := a.kids[number]
	if a.nodes[kids[0]].Kind != api.NodeName {
		return store, true
	}
	return a.set(a.program.Names[kids[0]], kids[1], store), true
}

// set returns a store in which a variable has the interval of an expression, if its type has a range.
func (a *analysis) set(variable, expression int, store []api.Range) []api.Range {
	if !a.isRanged(variable) {
		return store
	}
	return with(store, variable, a.interval(expression, store))
}

func (a *analysis) do(number int, store []api.Range) ([]api.Range, bool) {
	n := a.nodes[number]
	called := slices.IndexFunc(a.program.Procedures, func(x api.Procedure) bool { return x.Name == n.Text })
	for i, k := range a.kids[number] {
		if a.program.Procedures[called].Variables[i].Var {
			variable := a.program.Names[k]
			store = with(store, variable, a.widest(a.procedure.Variables[variable].Type))
		}
	}
	return store, true
}

func (a *analysis) assert(number int, store []api.Range) ([]api.Range, bool) {
	return a.restrict(a.kids[number][0], true, store)
}
