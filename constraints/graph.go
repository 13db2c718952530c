package constraints

import (
	"slices"

	"assessor/api"
)

// graph is the vertices with the constraints that matter: of several ones that say the same the first one, which no chain needs to exchange for a later one.
type graph struct {
	constraints []api.Constraint
	marks       [][]int // of each vertex
	equalities  [][]int // of each vertex
	searches    int
	reached     []int   // by which search each vertex was reached last
	visits      []visit // of the last search
}

// fact is what a constraint says; equalities say the same in both orders.
type fact struct {
	kind, a, b int
	mark       api.Type
}

func newGraph(vertices int, l []api.Constraint) *graph {
	g := &graph{constraints: l, marks: make([][]int, vertices), equalities: make([][]int, vertices), reached: make([]int, vertices)}
	known := map[fact]bool{}
	for i, c := range l {
		f := fact{kind: c.Kind, a: c.A, mark: c.Mark}
		if c.Kind == api.StepEqual {
			f = fact{kind: c.Kind, a: min(c.A, c.B), b: max(c.A, c.B)}
		}
		if known[f] {
			continue
		}
		known[f] = true
		if c.Kind == api.StepMark {
			g.marks[c.A] = append(g.marks[c.A], i)
			continue
		}
		g.equalities[c.A] = append(g.equalities[c.A], i)
		g.equalities[c.B] = append(g.equalities[c.B], i)
	}
	return g
}

// visit is a vertex that a search has reached: the index of the visit from which it came, the equality by which it did, and the number of equalities on the way.
type visit struct{ vertex, from, by, steps int }

// search returns the visits of the vertices that are connected with one, up to the first for which last says so; they are kept until the next search. The nearest ones come first, and of equally near ones those to which the first way leads, in the order of its equalities: they are reached from earlier visits, or by equalities with lesser indices.
func (g *graph) search(start int, last func(visit) bool) []visit {
	g.searches++
	g.visits = append(g.visits[:0], visit{start, -1, -1, 0})
	g.reached[start] = g.searches
	for i := 0; i < len(g.visits); i++ {
		from := g.visits[i]
		if last(from) {
			return g.visits[:i+1]
		}
		for _, by := range g.equalities[from.vertex] {
			c := g.constraints[by]
			other := c.A + c.B - from.vertex
			if g.reached[other] != g.searches {
				g.reached[other] = g.searches
				g.visits = append(g.visits, visit{other, i, by, from.steps + 1})
			}
		}
	}
	return g.visits
}

// classes returns the vertices of each class, in the order of the least ones.
func (g *graph) classes() [][]int {
	var l [][]int
	never := func(visit) bool { return false }
	for v := range g.marks {
		// No vertex is reached twice, as long as there are no other searches.
		if g.reached[v] > 0 {
			continue
		}
		var class []int
		for _, w := range g.search(v, never) {
			class = append(class, w.vertex)
		}
		l = append(l, class)
	}
	return l
}

// common returns the type of a class, and false if it is in conflict.
func (g *graph) common(class []int) (api.Type, bool) {
	var known api.Type
	for _, i := range g.marksOf(class) {
		mark := g.constraints[i].Mark
		if Exclude(known, mark) {
			return api.Type{}, false
		}
		if known.Kind == api.TypeNone || covers(known, mark) {
			known = mark
		}
	}
	if known.Kind == api.TypeSome || known.Kind == api.TypeScalar {
		known = api.Type{}
	}
	return known, true
}

// marksOf returns the marks of a class in the order of their indices.
func (g *graph) marksOf(class []int) []int {
	var l []int
	for _, v := range class {
		l = append(l, g.marks[v]...)
	}
	slices.Sort(l)
	return l
}

// chain returns the chain of a class in conflict.
func (g *graph) chain(class []int) []int {
	var best []int
	for _, mark := range g.marksOf(class) {
		if c, ok := g.chainFrom(mark, len(best)); ok {
			best = c
		}
	}
	return best
}

// chainFrom returns the first of the shortest chains that begin with a mark, and false if it has not less than limit constraints (0: no limit). Its last mark is later than the first: from an earlier one the same way back would have been found.
func (g *graph) chainFrom(mark, limit int) ([]int, bool) {
	excluding := func(i int) bool { return Exclude(g.constraints[mark].Mark, g.constraints[i].Mark) }
	found := -1
	visits := g.search(g.constraints[mark].A, func(v visit) bool {
		// A chain consists of the equalities and both marks.
		if limit > 0 && v.steps+2 >= limit {
			return true
		}
		i := slices.IndexFunc(g.marks[v.vertex], excluding)
		if i >= 0 {
			found = g.marks[v.vertex][i]
		}
		return i >= 0
	})
	if found < 0 {
		return nil, false
	}
	chain := []int{found}
	for i := len(visits) - 1; visits[i].from >= 0; i = visits[i].from {
		chain = append(chain, visits[i].by)
	}
	chain = append(chain, mark)
	slices.Reverse(chain)
	return chain, true
}
