package flow_test

import (
	"math/rand"
	"slices"
	"testing"

	"assessor/api"
	"assessor/checker"
	"assessor/flow"
	"assessor/samples"
	"assessor/trace"
)

// item is a node with its number, what contains it, and its place there.
type item struct {
	api.Node
	number, place int
	up            *item
	kids          []*item
}

// table is the chapter's table of the points of a procedure.
type table struct {
	points []api.Point
	items  []*item
	first  map[*item]int
}

// add notes the nodes of a procedure, and makes points without edges.
func (t *table) add(n api.Node, up *item, place int, next *int) *item {
	x := &item{Node: n, number: *next, place: place, up: up}
	*next++
	kinds := map[int][]int{
		api.NodeVar: {api.PointPlain}, api.NodeAssign: {api.PointPlain}, api.NodeDo: {api.PointPlain}, api.NodeAssert: {api.PointPlain},
		api.NodeReturn: {api.PointReturn}, api.NodeIf: {api.PointTest}, api.NodeWhile: {api.PointTest}, api.NodeFor: {api.PointBound, api.PointStep},
	}
	t.first[x] = len(t.points)
	for _, kind := range kinds[n.Kind] {
		t.points, t.items = append(t.points, api.Point{Kind: kind, Node: x.number}), append(t.items, x)
	}
	for i, k := range n.Kids {
		x.kids = append(x.kids, t.add(k, x, i, next))
	}
	return x
}

// beginning is that of a statement or a block.
func (t *table) beginning(x *item) int {
	switch {
	case x.Kind != api.NodeBlock:
		return t.first[x]
	case len(x.kids) > 0:
		return t.first[x.kids[0]]
	}
	return t.behind(x)
}

// behind is what follows a statement or a block.
func (t *table) behind(x *item) int {
	up := x.up
	switch {
	case up.Kind == api.NodeBlock && x.place+1 < len(up.kids):
		return t.beginning(up.kids[x.place+1])
	case up.Kind == api.NodeProcedure:
		return 1
	case up.Kind == api.NodeWhile:
		return t.first[up]
	case up.Kind == api.NodeFor:
		return t.first[up] + 1
	}
	return t.behind(up)
}

// leads is where a point leads.
func (t *table) leads(i int) []int {
	x := t.items[i]
	switch t.points[i].Kind {
	case api.PointReturn:
		return to(1)
	case api.PointTest:
		other := t.behind(x)
		if x.Kind == api.NodeIf && x.kids[2].Kind != api.NodeNone {
			other = t.beginning(x.kids[2])
		}
		return to(t.beginning(x.kids[1]), other)
	case api.PointBound:
		return to(i + 1)
	case api.PointStep:
		return to(t.beginning(x.kids[2]), t.behind(x))
	}
	return to(t.behind(x))
}

// define returns the flow of a procedure by the chapter's table.
func define(p api.Program, procedure int) api.Flow {
	number := 1
	for _, k := range p.Tree.Kids {
		t := table{points: []api.Point{{Kind: api.PointEntry, Node: -1}, {Kind: api.PointExit, Node: -1}}, items: []*item{nil, nil}, first: map[*item]int{}}
		at := number
		x := t.add(k, nil, 0, &number)
		if at != p.Procedures[procedure].Node {
			continue
		}
		t.points[0].Next = to(t.beginning(x.kids[2]))
		for i := 2; i < len(t.points); i++ {
			t.points[i].Next = t.leads(i)
		}
		return api.Flow{Points: t.points}
	}
	return api.Flow{}
}

// random returns a random program.
func random(t *testing.T, r *rand.Rand) api.Program {
	t.Helper()
	for {
		if n, s := samples.Program(r); len(n.Kids) > 0 {
			if p, _, e := checker.Check(s); e == api.OK {
				return p
			}
		}
	}
}

func TestRandomFlows(t *testing.T) {
	r := rand.New(rand.NewSource(1))
	for range 2000 {
		p := random(t, r)
		for i := range p.Procedures {
			f, e := flow.Of(p, i)
			want := define(p, i)
			same := func(a, b api.Point) bool {
				return a.Kind == b.Kind && a.Node == b.Node && slices.Equal(a.Next, b.Next)
			}
			if e != api.OK || !slices.EqualFunc(f.Points, want.Points, same) {
				t.Fatal(p.Tree, i, f, want)
			}
			properties(t, f)
			if ends := from(reversed(f), 1); len(ends) != len(f.Points) {
				t.Fatal(f, "not all points lead to the exit", ends)
			}
		}
	}
}

// reversed returns the points that lead to each point, once for each edge.
func reversed(f api.Flow) [][]int {
	l := make([][]int, len(f.Points))
	for i, p := range f.Points {
		for _, q := range p.Next {
			l[q] = append(l[q], i)
		}
	}
	return l
}

// from returns the points to which paths lead from a point.
func from(next [][]int, point int) map[int]bool {
	found := map[int]bool{point: true}
	for count := 0; count < len(found); {
		count = len(found)
		for i := range next {
			if found[i] {
				for _, to := range next[i] {
					found[to] = true
				}
			}
		}
	}
	return found
}

// properties compares what is computed for a flow with the definitions.
func properties(t *testing.T, f api.Flow) {
	t.Helper()
	edges, reached := reversed(f), from(next(f), 0)
	var begins []int
	for i, ok := range flow.Reachable(f) {
		if ok != reached[i] {
			t.Fatal(f, "reachable", i, ok)
		}
		l := slices.DeleteFunc(slices.Clone(edges[i]), func(j int) bool { return !reached[j] })
		if ok && (i < 2 || len(l) != 1 || len(f.Points[l[0]].Next) > 1) {
			begins = append(begins, i)
		}
	}
	var blocks [][]int
	for _, i := range begins {
		block := to(i)
		for {
			next := f.Points[block[len(block)-1]].Next
			if len(next) != 1 || slices.Contains(begins, next[0]) {
				break
			}
			block = append(block, next[0])
		}
		blocks = append(blocks, block)
	}
	if l := flow.Blocks(f); !same(l, blocks) {
		t.Fatal(next(f), "blocks", l, blocks)
	}
	if all := slices.Concat(blocks...); len(all) != len(reached) || slices.ContainsFunc(all, func(i int) bool { return !reached[i] }) {
		t.Fatal(next(f), "blocks", blocks)
	}
	before := flow.Before(f)
	for i, l := range edges {
		slices.Sort(l)
		if !slices.Equal(before[i], slices.Compact(l)) {
			t.Fatal(next(f), "before", i, before[i])
		}
	}
}

func TestRandomEdges(t *testing.T) {
	r := rand.New(rand.NewSource(2))
	for range 20000 {
		points := make([][]int, 2+r.Intn(9))
		density := 1 + r.Intn(3)
		for i := range points {
			for range r.Intn(density + 1) {
				if i != 1 {
					points[i] = append(points[i], 1+r.Intn(len(points)-1))
				}
			}
		}
		properties(t, edges(points...))
	}
}

// visit is a frame of a run at a point, and where this leads.
type visit struct {
	f       api.Flow
	point   int
	decided bool // the value of a test is known
	leads   []int
}

// enter goes to a point, which the point before must lead to.
func (v *visit) enter(t *testing.T, point int) {
	t.Helper()
	if !slices.Contains(v.leads, point) {
		t.Fatal(v.f, "no edge from", v.point, "to", point, "but to", v.leads)
	}
	v.point, v.decided, v.leads = point, false, v.f.Points[point].Next
}

// decide notes the value of the test of a point, in front of which a further visit of a loop may be.
func (v *visit) decide(t *testing.T, point, value int) {
	t.Helper()
	if v.point != point || v.decided {
		v.enter(t, point)
	}
	v.decided, v.leads = true, v.f.Points[point].Next[1-value:][:1]
}

// follow checks that a run goes along the edges of the flows, and returns how many events it has.
func follow(t *testing.T, p api.Program, flows []api.Flow, l []api.Event) int {
	t.Helper()
	var frames []*visit
	for _, e := range l {
		if e.Kind == api.EventEnter {
			frames = append(frames, &visit{f: flows[e.Value], leads: flows[e.Value].Points[0].Next})
			continue
		}
		if e.Kind != api.EventStatement && e.Kind != api.EventTest && e.Kind != api.EventLeave {
			continue
		}
		v := frames[len(frames)-1]
		switch e.Kind {
		case api.EventStatement:
			v.enter(t, flow.Points(v.f, e.Node)[0])
		case api.EventLeave:
			v.enter(t, 1)
			frames = frames[:len(frames)-1]
		case api.EventTest:
			if steps := flow.Points(v.f, e.Node); len(steps) == 2 {
				v.enter(t, steps[1])
				v.decide(t, steps[1], e.Value)
			}
			// The condition of an if or a while is its first kid.
			tests := flow.Points(v.f, e.Node-1)
			if len(tests) == 1 && v.f.Points[tests[0]].Kind == api.PointTest {
				v.decide(t, tests[0], e.Value)
			}
		}
	}
	return len(l)
}

func TestRunsFollowEdges(t *testing.T) {
	r := rand.New(rand.NewSource(3))
	count := 0
	for range 3000 {
		p := random(t, r)
		var flows []api.Flow
		for i := range p.Procedures {
			f, _ := flow.Of(p, i)
			flows = append(flows, f)
		}
		for _, x := range p.Procedures {
			b := api.Bounds{Width: 2 + r.Intn(7), Loops: r.Intn(4)}
			input := samples.Scalars(r, p.Records, b.Width, x.Variables[:x.Parameters]...)
			if l, e := trace.Events(p, x.Name, b, input); e == api.OK {
				count += follow(t, p, flows, l)
			}
		}
	}
	if count < 30000 {
		t.Error("only", count, "events")
	}
}
