package ranges_test

import (
	"maps"
	"slices"
	"strconv"

	"assessor/api"
	"assessor/checker"
	"assessor/tree"
	"assessor/value"
)

// reader finds intervals as the chapter tells them, where it can by all pairs of numbers.
type reader struct {
	p     api.Program
	width int
	x     api.Procedure
	nodes []api.Node
}

func read(p api.Program, procedure, width int) *reader {
	return &reader{p, width, p.Procedures[procedure], list(p.Tree)}
}

// kid returns the number of a kid of a node.
func (x *reader) kid(number, i int) int {
	d, _ := tree.Number(x.nodes[number], i)
	return number + d
}

func (x *reader) ints() api.Range { return to(-1<<(x.width-1), 1<<(x.width-1)-1) }

// of returns the range of a type.
func (x *reader) of(t api.Type) api.Range {
	switch t.Kind {
	case api.TypeInt:
		return x.ints()
	case api.TypeBool:
		return to(0, 1)
	}
	return to(0, 0)
}

// spread returns the least interval that contains some numbers.
func spread(l ...int) api.Range { return to(slices.Min(l), slices.Max(l)) }

func bit(holds bool) int {
	if holds {
		return 1
	}
	return 0
}

// compute returns the result of an operator without a width.
func compute(operator string, i, k int) int {
	switch operator {
	case "+":
		return i + k
	case "-":
		return i - k
	case "*":
		return i * k
	case "/":
		return i / k
	case "==":
		return bit(i == k)
	case "!=":
		return bit(i != k)
	case "<":
		return bit(i < k)
	case "<=":
		return bit(i <= k)
	case ">":
		return bit(i > k)
	case ">=":
		return bit(i >= k)
	case "and":
		return min(i, k)
	}
	return max(i, k)
}

// pairs goes through all pairs of numbers of two intervals.
func pairs(a, b api.Range) func(yield func(i, k int) bool) {
	return func(yield func(i, k int) bool) {
		for i := a.Lo; i <= a.Hi; i++ {
			for k := b.Lo; k <= b.Hi; k++ {
				if !yield(i, k) {
					return
				}
			}
		}
	}
}

// binary returns the interval of an operator.
func (x *reader) binary(operator string, a, b api.Range) api.Range {
	c := b.Lo
	switch {
	case operator == "/" && (b.Lo != b.Hi || c == 0 || c == -1), operator == "%" && (b.Lo != b.Hi || c == 0):
		return x.ints()
	case operator == "%":
		return remainders(a, c)
	}
	var l []int
	for i, k := range pairs(a, b) {
		l = append(l, compute(operator, i, k))
	}
	r := spread(l...)
	if all := x.ints(); slices.Contains([]string{"+", "-", "*"}, operator) && (r.Lo < all.Lo || r.Hi > all.Hi) {
		return all
	}
	return r
}

// remainders returns the interval of % c.
func remainders(a api.Range, c int) api.Range {
	m := c - 1
	if c < 0 {
		m = -c - 1
	}
	r := to(max(a.Lo, -m), min(a.Hi, m))
	if a.Lo >= 0 {
		r.Lo = 0
	}
	if a.Hi <= 0 {
		r.Hi = 0
	}
	return r
}

// interval returns the interval of an expression.
func (x *reader) interval(at int, l []api.Range) api.Range {
	n := x.nodes[at]
	switch n.Kind {
	case api.NodeNumber:
		i, _ := strconv.Atoi(n.Text)
		return spread(value.Wrap(x.width, i))
	case api.NodeBool:
		return spread(bit(n.Text == "true"))
	case api.NodeLen:
		return spread(value.Wrap(x.width, x.p.Types[at+1].Len))
	case api.NodeName:
		return l[x.p.Names[at]]
	case api.NodeUnary:
		a := x.interval(x.kid(at, 0), l)
		switch {
		case n.Text == "not":
			return to(1-a.Hi, 1-a.Lo)
		case a.Lo == x.ints().Lo:
			return x.ints()
		}
		return to(-a.Hi, -a.Lo)
	case api.NodeBinary:
		return x.binary(n.Text, x.interval(x.kid(at, 0), l), x.interval(x.kid(at, 1), l))
	}
	return x.of(x.p.Types[at])
}

// restrict returns a restricted store, and whether there is one.
func (x *reader) restrict(at int, truth bool, l []api.Range) ([]api.Range, bool) {
	n := x.nodes[at]
	if r := x.interval(at, l); bit(truth) < r.Lo || bit(truth) > r.Hi {
		return nil, false
	}
	switch {
	case n.Kind == api.NodeName:
		l = slices.Clone(l)
		l[x.p.Names[at]] = spread(bit(truth))
	case n.Kind == api.NodeUnary:
		return x.restrict(x.kid(at, 0), !truth, l)
	case n.Kind == api.NodeBinary && (n.Text == "and" && truth || n.Text == "or" && !truth):
		if first, ok := x.restrict(x.kid(at, 0), truth, l); ok {
			return x.restrict(x.kid(at, 1), truth, first)
		}
		return nil, false
	case n.Kind == api.NodeBinary && n.Text != "and" && n.Text != "or":
		return x.compare(at, truth, l)
	}
	return l, true
}

// compare restricts a variable on the left of a relation to the least interval with all numbers that are in the relation to some number of the right operand.
func (x *reader) compare(at int, truth bool, l []api.Range) ([]api.Range, bool) {
	left := x.kid(at, 0)
	if x.nodes[left].Kind != api.NodeName || x.p.Types[left].Kind != api.TypeInt {
		return l, true
	}
	var kept []int
	v := x.p.Names[left]
	for i, k := range pairs(l[v], x.interval(x.kid(at, 1), l)) {
		if compute(x.nodes[at].Text, i, k) == bit(truth) {
			kept = append(kept, i)
		}
	}
	if len(kept) == 0 {
		return nil, false
	}
	l = slices.Clone(l)
	l[v] = spread(kept...)
	return l, true
}

// send returns what a point sends over an edge.
func (x *reader) send(p api.Point, edge int, l []api.Range) ([]api.Range, bool) {
	set := func(variable int, r api.Range) {
		l = slices.Clone(l)
		if x.of(x.x.Variables[variable].Type) != to(0, 0) {
			l[variable] = r
		}
	}
	switch p.Kind {
	case api.PointTest:
		return x.restrict(x.kid(p.Node, 0), edge == 0, l)
	case api.PointBound:
		a, b := x.interval(x.kid(p.Node, 0), l), x.interval(x.kid(p.Node, 1), l)
		set(x.p.Names[p.Node], spread(a.Lo, a.Hi, b.Lo, b.Hi))
	case api.PointPlain:
		switch n := x.nodes[p.Node]; n.Kind {
		case api.NodeVar:
			set(x.p.Names[p.Node], x.interval(x.kid(p.Node, 1), l))
		case api.NodeAssign:
			if n.Kids[0].Kind == api.NodeName {
				set(x.p.Names[x.kid(p.Node, 0)], x.interval(x.kid(p.Node, 1), l))
			}
		case api.NodeDo:
			called, _ := checker.Find(x.p, n.Text)
			for i := range n.Kids {
				if parameter := x.p.Procedures[called].Variables[i]; parameter.Var {
					set(x.p.Names[x.kid(p.Node, i)], x.of(parameter.Type))
				}
			}
		case api.NodeAssert:
			return x.restrict(x.kid(p.Node, 0), true, l)
		}
	}
	return l, true
}

// analyze returns the stores in front of the points: in each round, what arrives from those of the round before, until nothing changes.
func (x *reader) analyze(f api.Flow, parameters []api.Range) [][]api.Range {
	first := slices.Clone(parameters)
	for _, v := range x.x.Variables[x.x.Parameters:] {
		first = append(first, x.of(v.Type))
	}
	front := map[int][]api.Range{}
	for {
		next := map[int][]api.Range{}
		arrive := func(point int, l []api.Range) {
			l = slices.Clone(l)
			for i, r := range next[point] {
				l[i] = spread(l[i].Lo, l[i].Hi, r.Lo, r.Hi)
			}
			next[point] = l
		}
		arrive(f.Points[0].Next[0], first)
		for i, l := range front {
			for edge, point := range f.Points[i].Next {
				if sent, ok := x.send(f.Points[i], edge, l); ok {
					arrive(point, sent)
				}
			}
		}
		if maps.EqualFunc(front, next, slices.Equal[[]api.Range]) {
			break
		}
		front = next
	}
	all := make([][]api.Range, len(f.Points))
	for i, l := range front {
		all[i] = l
	}
	return all
}
