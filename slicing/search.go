package slicing

import (
	"slices"

	"assessor/api"
	"assessor/dataflow"
	"assessor/dominators"
	"assessor/tree"
)

// around returns for each statement of the procedure with a number the statement that contains it directly, or -1.
func around(n api.Node, procedure int) map[int]int {
	outer := map[int]int{}
	next := procedure
	var visit func(n api.Node, by int)
	visit = func(n api.Node, by int) {
		number := next
		next++
		if isStatement(n) {
			outer[number], by = by, number
		}
		for _, k := range n.Kids {
			visit(k, by)
		}
	}
	path, _ := tree.Path(n, procedure)
	x, _ := tree.Get(n, path...)
	visit(x, -1)
	return outer
}

func isStatement(n api.Node) bool { return api.NodeVar <= n.Kind && n.Kind <= api.NodeDo }

// searcher searches for the statements of a procedure that are kept.
type searcher struct {
	variables   []api.Variable
	points      []api.Point
	accesses    []api.Access
	definitions []api.Definition
	reaching    [][]int
	control     [][]int
	outer       map[int]int   // the statements, with those around them
	at          map[int][]int // the points of each statement
	kept        map[int]bool
	wait        []int // statements that are kept, and still to be looked at
}

func begin(p api.Program, procedure int, f api.Flow) *searcher {
	x := p.Procedures[procedure]
	s := &searcher{variables: x.Variables, points: f.Points, outer: around(p.Tree, x.Node), at: map[int][]int{}, kept: map[int]bool{}}
	s.accesses, _ = dataflow.Accesses(p, procedure)
	s.definitions, _ = dataflow.Definitions(p, procedure)
	s.reaching, _ = dataflow.Reaching(p, procedure)
	s.control = dominators.Control(f)
	for i, point := range f.Points {
		s.at[point.Node] = append(s.at[point.Node], i)
	}
	return s
}

// search finds all statements that are kept for a statement and a variable.
func (s *searcher) search(node, variable int) {
	s.keep(node)
	s.declare(variable)
	s.define(s.at[node][0], variable)
	for _, p := range s.points {
		if p.Kind == api.PointReturn {
			s.keep(p.Node)
		}
	}
	for len(s.wait) > 0 {
		last := len(s.wait) - 1
		node := s.wait[last]
		s.wait = s.wait[:last]
		s.look(node)
	}
}

// keep keeps a node, if it is a statement: parameters, and the entry, are none.
func (s *searcher) keep(node int) {
	if _, is := s.outer[node]; is && !s.kept[node] {
		s.kept[node] = true
		s.wait = append(s.wait, node)
	}
}

// declare keeps the statements that declare some variables.
func (s *searcher) declare(variables ...int) {
	for _, v := range variables {
		s.keep(s.variables[v].Node)
	}
}

// define keeps the statements whose definitions of some variables reach a point.
func (s *searcher) define(point int, variables ...int) {
	for _, i := range s.reaching[point] {
		if d := s.definitions[i]; slices.Contains(variables, d.Variable) {
			s.keep(s.points[d.Point].Node)
		}
	}
}

// look keeps what a statement that is kept depends on, and what contains it.
func (s *searcher) look(node int) {
	s.keep(s.outer[node])
	for _, point := range s.at[node] {
		a := s.accesses[point]
		s.declare(a.Uses...)
		s.declare(a.Defines...)
		s.define(point, a.Uses...)
		for _, on := range s.control[point] {
			s.keep(s.points[on].Node)
		}
	}
}
