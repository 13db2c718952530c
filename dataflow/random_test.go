package dataflow_test

import (
	"maps"
	"math/rand"
	"slices"
	"testing"

	"assessor/api"
	"assessor/checker"
	"assessor/dataflow"
	"assessor/flow"
	"assessor/names"
	"assessor/samples"
	"assessor/trace"
)

// random returns a random program.
func random(t *testing.T, r *rand.Rand) api.Program {
	t.Helper()
	for {
		if n, s := samples.Program(r); len(n.Kids) > 0 {
			if p, _, e := checker.Check(s); e == api.OK {
				return p
			}
		}
	}
}

// reader finds accesses as the chapter's table tells them, by the declarations of a tree.
type reader struct {
	p     api.Program
	r     api.Resolution
	nodes []api.Node
	kids  map[int][]int // the numbers of the kids of each node
}

func read(p api.Program) *reader {
	x := &reader{p: p, kids: map[int][]int{}}
	x.r, _, _ = names.Resolve(p.Tree)
	var visit func(api.Node) int
	visit = func(n api.Node) int {
		number := len(x.nodes)
		x.nodes = append(x.nodes, n)
		for _, k := range n.Kids {
			x.kids[number] = append(x.kids[number], visit(k))
		}
		return number
	}
	visit(p.Tree)
	return x
}

// variable returns the index of the variable that a node makes or uses.
func (x *reader) variable(procedure, number int) int {
	node := x.r.Declarations[x.r.Uses[number]].Node
	return slices.IndexFunc(x.p.Procedures[procedure].Variables, func(v api.Variable) bool { return v.Node == node })
}

// in adds the variables that the NodeNames of some nodes name to a set.
func (x *reader) in(procedure int, set map[int]bool, numbers ...int) {
	for _, number := range numbers {
		if x.nodes[number].Kind == api.NodeName {
			set[x.variable(procedure, number)] = true
		}
		x.in(procedure, set, x.kids[number]...)
	}
}

// access returns the sets that a point uses and defines, and whether it defines them wholly.
func (x *reader) access(procedure int, p api.Point) (map[int]bool, map[int]bool, bool) {
	uses, defines := map[int]bool{}, map[int]bool{}
	me := x.p.Procedures[procedure]
	switch p.Kind {
	case api.PointEntry:
		for i := range me.Parameters {
			defines[i] = true
		}
		return uses, defines, len(defines) > 0
	case api.PointExit:
		for i := range me.Parameters {
			if me.Variables[i].Var {
				uses[i] = true
			}
		}
		return uses, defines, false
	}
	n, kids := x.nodes[p.Node], x.kids[p.Node]
	switch n.Kind {
	case api.NodeVar:
		x.in(procedure, uses, kids[1])
		defines[x.variable(procedure, p.Node)] = true
		return uses, defines, true
	case api.NodeAssign:
		x.in(procedure, uses, kids[1])
		if x.nodes[kids[0]].Kind == api.NodeName {
			x.in(procedure, defines, kids[0])
			return uses, defines, true
		}
		x.in(procedure, uses, kids[0])
		x.in(procedure, defines, x.kids[kids[0]][0])
		return uses, defines, false
	case api.NodeDo:
		x.in(procedure, uses, kids...)
		called, _ := checker.Find(x.p, n.Text)
		for i, v := range x.p.Procedures[called].Variables[:len(kids)] {
			if v.Var {
				x.in(procedure, defines, kids[i])
			}
		}
		return uses, defines, len(defines) > 0
	case api.NodeFor:
		defines[x.variable(procedure, p.Node)] = true
		if p.Kind == api.PointStep {
			return defines, defines, false
		}
		x.in(procedure, uses, kids[0], kids[1])
		return uses, defines, true
	}
	x.in(procedure, uses, kids[0])
	return uses, defines, false
}

// list returns the elements of a set in increasing order.
func list(set map[int]bool) []int {
	return slices.Sorted(maps.Keys(set))
}

// whole reports whether an access defines a variable wholly.
func whole(a api.Access, variable int) bool { return a.Whole && slices.Contains(a.Defines, variable) }

// leads returns the points b of all paths from a point to b with at least one edge, on which some points are only first or last.
func leads(f api.Flow, from int, ends func(int) bool) map[int]bool {
	found := map[int]bool{}
	wait := []int{from}
	for len(wait) > 0 {
		p := wait[0]
		wait = wait[1:]
		for _, to := range f.Points[p].Next {
			if !found[to] && !ends(to) {
				wait = append(wait, to)
			}
			found[to] = true
		}
	}
	return found
}

// compare compares what is computed for a procedure with the definitions.
func compare(t *testing.T, p api.Program, x *reader, procedure int) {
	t.Helper()
	f, _ := flow.Of(p, procedure)
	accesses, _ := dataflow.Accesses(p, procedure)
	var all []api.Definition
	for i, point := range f.Points {
		uses, defines, whole := x.access(procedure, point)
		if want := access(list(uses), list(defines), whole); !sameAccess(accesses[i], want) {
			t.Fatal(p.Tree, procedure, i, accesses[i], want)
		}
		for _, v := range list(defines) {
			all = append(all, definition(i, v))
		}
	}
	if l, _ := dataflow.Definitions(p, procedure); !slices.Equal(l, all) || len(accesses) != len(f.Points) {
		t.Fatal(p.Tree, procedure, l, all)
	}
	reaching, live := make([][]int, len(f.Points)), make([][]int, len(f.Points))
	for i, d := range all {
		for _, b := range list(leads(f, d.Point, func(q int) bool { return whole(accesses[q], d.Variable) })) {
			reaching[b] = append(reaching[b], i)
		}
	}
	for v := range p.Procedures[procedure].Variables {
		ends := func(q int) bool { return whole(accesses[q], v) }
		for b, a := range accesses {
			used := slices.Contains(a.Uses, v)
			if !used && !ends(b) {
				for q := range leads(f, b, ends) {
					used = used || slices.Contains(accesses[q].Uses, v)
				}
			}
			if used {
				live[b] = append(live[b], v)
			}
		}
	}
	if l, _ := dataflow.Reaching(p, procedure); !same(l, reaching) {
		t.Fatal(p.Tree, procedure, "reaching", l, reaching)
	}
	if l, _ := dataflow.Live(p, procedure); !same(l, live) {
		t.Fatal(p.Tree, procedure, "live", l, live)
	}
	consequences(t, f, accesses, all, reaching, live)
}

// P19.4

// consequences checks what follows for a procedure with a flow.
func consequences(t *testing.T, f api.Flow, accesses []api.Access, all []api.Definition, reaching, live [][]int) {
	t.Helper()
	gen, kill := make([][]int, len(accesses)), make([][]int, len(accesses))
	uses, wholly := make([][]int, len(accesses)), make([][]int, len(accesses))
	for i, a := range accesses {
		for k, d := range all {
			switch {
			case d.Point == i:
				gen[i] = append(gen[i], k)
			case whole(a, d.Variable):
				kill[i] = append(kill[i], k)
			}
		}
		uses[i] = a.Uses
		if a.Whole {
			wholly[i] = a.Defines
		}
	}
	if front, _, e := dataflow.Solve(f, true, gen, kill); !same(front, reaching) || e != api.OK {
		t.Fatal(f, front, reaching)
	}
	if front, _, e := dataflow.Solve(f, false, uses, wholly); !same(front, live) || e != api.OK {
		t.Fatal(f, front, live)
	}
	for i, ok := range flow.Reachable(f) {
		for _, v := range accesses[i].Uses {
			reaches := func(k int) bool { return all[k].Variable == v }
			if ok && !slices.ContainsFunc(reaching[i], reaches) {
				t.Fatal(f, "no definition of", v, "reaches", i)
			}
		}
	}
}

func TestRandomPrograms(t *testing.T) {
	r := rand.New(rand.NewSource(1))
	for range 1000 {
		p := random(t, r)
		x := read(p)
		for i := range p.Procedures {
			compare(t, p, x, i)
		}
	}
}

// numbers returns a random set for each point.
func numbers(r *rand.Rand, points, most int) [][]int {
	var all [][]int
	for range points {
		set := map[int]bool{}
		for range r.Intn(3) {
			set[r.Intn(most)] = true
		}
		all = append(all, list(set))
	}
	return all
}

// least returns the least sets that arrive at each point from those that lead to it, and that leave it.
func least(from, gen, kill [][]int) ([][]int, [][]int) {
	arrive, leave := make([]map[int]bool, len(from)), make([]map[int]bool, len(from))
	for i := range from {
		arrive[i], leave[i] = map[int]bool{}, map[int]bool{}
	}
	for changed := true; changed; {
		changed = false
		for i := range from {
			before := len(arrive[i]) + len(leave[i])
			for _, q := range from[i] {
				for n := range leave[q] {
					arrive[i][n] = true
				}
			}
			for n := range arrive[i] {
				if !slices.Contains(kill[i], n) {
					leave[i][n] = true
				}
			}
			for _, n := range gen[i] {
				leave[i][n] = true
			}
			changed = changed || before != len(arrive[i])+len(leave[i])
		}
	}
	var a, l [][]int
	for i := range from {
		a, l = append(a, list(arrive[i])), append(l, list(leave[i]))
	}
	return a, l
}

// turn exchanges the entry and the exit.
func turn(p int) int {
	if p <= 1 {
		return 1 - p
	}
	return p
}

// turned returns a list with the elements of the entry and the exit exchanged.
func turned(l [][]int) [][]int {
	l = slices.Clone(l)
	l[0], l[1] = l[1], l[0]
	return l
}

func TestRandomEdges(t *testing.T) {
	r := rand.New(rand.NewSource(2))
	for range 3000 {
		points := make([][]int, 2+r.Intn(10))
		before, back := make([][]int, len(points)), make([][]int, len(points))
		for i := range points {
			for range r.Intn(3) {
				if i != 1 {
					to := 1 + r.Intn(len(points)-1)
					points[i], before[to] = append(points[i], to), append(before[to], i)
					back[turn(to)] = append(back[turn(to)], turn(i))
				}
			}
		}
		f := edges(points...)
		most := []int{1, 3, 70, api.MaxNodes}[r.Intn(4)]
		gen, kill := numbers(r, len(points), most), numbers(r, len(points), most)
		front, behind, e := dataflow.Solve(f, true, gen, kill)
		if a, l := least(before, gen, kill); !same(front, a) || !same(behind, l) || e != api.OK {
			t.Fatal(points, gen, kill, "forward", front, a, behind, l)
		}
		front, behind, e = dataflow.Solve(f, false, gen, kill)
		if a, l := least(points, gen, kill); !same(front, l) || !same(behind, a) || e != api.OK {
			t.Fatal(points, gen, kill, "backward", front, l, behind, a)
		}
		// Backward sets are forward sets of the reversed flow.
		a, l, e := dataflow.Solve(edges(back...), true, turned(gen), turned(kill))
		if !same(front, turned(l)) || !same(behind, turned(a)) || e != api.OK {
			t.Fatal(points, gen, kill, "reversed", front, l, behind, a)
		}
	}
}

// visit is what the frame of a procedure knows in a run: for each variable, the points that made what it contains.
type visit struct {
	flow     api.Flow
	accesses []api.Access
	all      []api.Definition
	reaching [][]int
	made     map[int][]int
}

// pass notes what a point defines.
func (v *visit) pass(point int) {
	a := v.accesses[point]
	for _, x := range a.Defines {
		if a.Whole {
			v.made[x] = nil
		}
		v.made[x] = append(v.made[x], point)
	}
}

// arrive checks that what made the variables reaches a point, and passes this.
func (v *visit) arrive(t *testing.T, point int) int {
	t.Helper()
	count := 0
	for x, l := range v.made {
		for _, from := range l {
			i := slices.Index(v.all, definition(from, x))
			if !slices.Contains(v.reaching[point], i) {
				t.Fatal(v.flow, "the definition of", x, "at", from, "arrives at", point, "but does not reach it")
			}
			count++
		}
	}
	v.pass(point)
	return count
}

// follow checks for a run that definitions reach the statements at which they arrive, and returns how often they do.
func follow(t *testing.T, p api.Program, l []api.Event) int {
	t.Helper()
	var frames []*visit
	count := 0
	for _, e := range l {
		if e.Kind == api.EventEnter {
			v := &visit{made: map[int][]int{}}
			v.flow, _ = flow.Of(p, e.Value)
			v.accesses, _ = dataflow.Accesses(p, e.Value)
			v.all, _ = dataflow.Definitions(p, e.Value)
			v.reaching, _ = dataflow.Reaching(p, e.Value)
			v.pass(0)
			frames = append(frames, v)
			continue
		}
		if len(frames) == 0 {
			continue
		}
		v := frames[len(frames)-1]
		switch e.Kind {
		case api.EventStatement:
			count += v.arrive(t, flow.Points(v.flow, e.Node)[0])
		case api.EventTest:
			// A further round of a for, or its end.
			if points := flow.Points(v.flow, e.Node); len(points) == 2 {
				count += v.arrive(t, points[1])
			}
		case api.EventLeave:
			count += v.arrive(t, 1)
			frames = frames[:len(frames)-1]
		}
	}
	return count
}

func TestRunsBringDefinitions(t *testing.T) {
	r := rand.New(rand.NewSource(3))
	count := 0
	for range 1500 {
		p := random(t, r)
		for _, x := range p.Procedures {
			b := api.Bounds{Width: 2 + r.Intn(7), Loops: r.Intn(4)}
			input := samples.Scalars(r, p.Records, b.Width, x.Variables[:x.Parameters]...)
			if l, e := trace.Events(p, x.Name, b, input); e == api.OK && len(l) < 2000 {
				count += follow(t, p, l)
			}
		}
	}
	if count < 10000 {
		t.Error("only", count, "definitions")
	}
}
