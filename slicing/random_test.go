package slicing_test

import (
	"maps"
	"math/rand"
	"slices"
	"testing"

	"assessor/api"
	"assessor/checker"
	"assessor/dataflow"
	"assessor/dominators"
	"assessor/flow"
	"assessor/interpreter"
	"assessor/names"
	"assessor/printer"
	"assessor/samples"
	"assessor/slicing"
	"assessor/trace"
	"assessor/tree"
)

// random returns a random program.
func random(t *testing.T, r *rand.Rand) api.Program {
	t.Helper()
	for {
		if n, s := samples.Program(r); len(n.Kids) > 0 {
			if p, _, e := checker.Check(s); e == api.OK {
				return p
			}
		}
	}
}

// rules are what the chapter's rules need of a procedure.
type rules struct {
	flow        api.Flow
	accesses    []api.Access
	definitions []api.Definition
	reaching    [][]int
	control     [][]int
	variables   []api.Variable
	paths       map[int][]int // of the statements
}

func rulesOf(p api.Program, procedure int) rules {
	var x rules
	x.flow, _ = flow.Of(p, procedure)
	x.accesses, _ = dataflow.Accesses(p, procedure)
	x.definitions, _ = dataflow.Definitions(p, procedure)
	x.reaching, _ = dataflow.Reaching(p, procedure)
	x.control = dominators.Control(x.flow)
	x.variables = p.Procedures[procedure].Variables
	x.paths = map[int][]int{}
	for _, point := range x.flow.Points[2:] {
		x.paths[point.Node], _ = tree.Path(p.Tree, point.Node)
	}
	return x
}

// declares reports whether a statement declares one of some variables.
func (x rules) declares(s int, variables []int) bool {
	return slices.ContainsFunc(variables, func(v int) bool { return x.variables[v].Node == s })
}

// reaches reports whether a definition of one of some variables in a statement reaches a point.
func (x rules) reaches(s, point int, variables []int) bool {
	return slices.ContainsFunc(x.reaching[point], func(i int) bool {
		d := x.definitions[i]
		return slices.Contains(variables, d.Variable) && slices.Contains(flow.Points(x.flow, s), d.Point)
	})
}

// needs reports whether a statement that is kept keeps another one.
func (x rules) needs(kept, s int) bool {
	for _, point := range flow.Points(x.flow, kept) {
		a := x.accesses[point]
		if x.reaches(s, point, a.Uses) || x.declares(s, a.Uses) || x.declares(s, a.Defines) {
			return true
		}
		for _, on := range x.control[point] {
			if x.flow.Points[on].Node == s {
				return true
			}
		}
	}
	inner, outer := x.paths[kept], x.paths[s]
	return len(outer) < len(inner) && slices.Equal(outer, inner[:len(outer)])
}

// kept returns what the rules keep.
func (x rules) kept(node, variable int) []int {
	all := map[int]bool{}
	for _, point := range x.flow.Points {
		if point.Kind == api.PointReturn {
			all[point.Node] = true
		}
	}
	for s := range x.paths {
		if s == node || x.declares(s, []int{variable}) || x.reaches(s, flow.Points(x.flow, node)[0], []int{variable}) {
			all[s] = true
		}
	}
	for count := 0; count < len(all); {
		count = len(all)
		for _, kept := range slices.Collect(maps.Keys(all)) {
			for s := range x.paths {
				if !all[s] && x.needs(kept, s) {
					all[s] = true
				}
			}
		}
	}
	return slices.Sorted(maps.Keys(all))
}

func TestRandomKept(t *testing.T) {
	r := rand.New(rand.NewSource(1))
	count := 0
	for range 400 {
		p := random(t, r)
		for i, procedure := range p.Procedures {
			x := rulesOf(p, i)
			all := slices.Sorted(maps.Keys(x.paths))
			for range min(4, len(all)*len(procedure.Variables)) {
				node, variable := all[r.Intn(len(all))], r.Intn(len(procedure.Variables))
				l, e := slicing.Kept(p, i, node, variable)
				if want := x.kept(node, variable); !slices.Equal(l, want) || e != api.OK {
					t.Fatal(text(t, p.Tree), i, node, variable, l, want, e)
				}
				if len(l) < len(all) {
					count++
				}
			}
		}
	}
	if count < 300 {
		t.Error("only", count, "slices leave something out")
	}
}

// P20.4

// values returns the values of a variable at each beginning of a statement, in a run of its procedure.
func values(t *testing.T, p api.Program, procedure, node, variable int, b api.Bounds, input []int) [][]int {
	t.Helper()
	s, e := trace.New(p, p.Procedures[procedure].Name, b, input)
	if e != api.OK {
		t.Fatal(e)
	}
	v := p.Procedures[procedure].Variables[variable]
	size := p.Procedures[procedure].Slots
	if variable+1 < len(p.Procedures[procedure].Variables) {
		size = p.Procedures[procedure].Variables[variable+1].Slot
	}
	var l [][]int
	for s.Seek(node, false) {
		l = append(l, s.Frames()[0].Slots[v.Slot:size])
	}
	return l
}

// accepted returns the checked program of a tree, which the checker must accept, as it must its text.
func accepted(t *testing.T, n api.Node) api.Program {
	t.Helper()
	if s, e := printer.Format(n); e == api.OK {
		if _, l, e := checker.Check(s); e != api.OK || len(l) > 0 {
			t.Fatal(s, l, e)
		}
	}
	p, l, e := checker.Tree(n)
	if e != api.OK || len(l) > 0 {
		t.Fatal(n, l, e)
	}
	return p
}

func TestTypedTreesAreAccepted(t *testing.T) {
	r := rand.New(rand.NewSource(2))
	for range 300 {
		p := random(t, r)
		n := slicing.Typed(p)
		q := accepted(t, n)
		same := func(a, b api.Procedure) bool {
			return a.Name == b.Name && a.Node == b.Node && a.Slots == b.Slots && slices.Equal(a.Variables, b.Variables)
		}
		if !slices.EqualFunc(p.Procedures, q.Procedures, same) {
			t.Fatal(text(t, p.Tree), text(t, n))
		}
		for number := range tree.Count(n) {
			a, _ := tree.Path(n, number)
			node, _ := tree.Get(n, a...)
			old, _ := tree.Get(p.Tree, a...)
			switch node.Kind {
			case api.NodeParameter, api.NodeVarParameter, api.NodeVar:
				if node.Kids[0].Kind == api.NodeNone || old.Kids[0].Kind != api.NodeNone && !tree.Same(node.Kids[0], old.Kids[0]) {
					t.Fatal(text(t, p.Tree), text(t, n))
				}
			case api.NodeType, api.NodeArrayType:
			default:
				if node.Kind != old.Kind || node.Text != old.Text || len(node.Kids) != len(old.Kids) {
					t.Fatal(text(t, p.Tree), text(t, n))
				}
			}
		}
	}
}

// declaration returns the name of a variable, and the place of its declaration among those of its procedure that are kept.
func declaration(p api.Program, procedure, variable int, kept func(int) bool) (string, int) {
	r, _, _ := names.Resolve(p.Tree)
	place := 0
	x := p.Procedures[procedure]
	for _, d := range r.Declarations {
		switch {
		case d.Owner != x.Node:
		case d.Node == x.Variables[variable].Node:
			return d.Name, place
		case d.Kind == api.DeclParameter || kept(d.Node):
			place++
		}
	}
	return "", -1
}

// slice checks a slice for a run, and returns how many values it compared.
func slice(t *testing.T, r *rand.Rand, p api.Program, procedure, node, variable int) int {
	t.Helper()
	n, number, index, e := slicing.Slice(p, procedure, node, variable)
	if e != api.OK {
		t.Fatal(e)
	}
	q := accepted(t, n)
	kept, _ := slicing.Kept(p, procedure, node, variable)
	name, place := declaration(p, procedure, variable, func(k int) bool { return slices.Contains(kept, k) })
	again, other := declaration(q, procedure, index, func(int) bool { return true })
	if name != again || place != other || q.Procedures[procedure].Variables[index].Type != p.Procedures[procedure].Variables[variable].Type {
		t.Fatal(text(t, p.Tree), text(t, n), variable, index)
	}
	x := p.Procedures[procedure]
	count := 0
	for range 5 {
		b := api.Bounds{Width: 2 + r.Intn(7), Loops: 1 + r.Intn(3)}
		input := samples.Scalars(r, p.Records, b.Width, x.Variables[:x.Parameters]...)
		o, _, e := interpreter.Run(p, x.Name, b, input)
		if e != api.OK || o.Fault != api.FaultNone {
			continue
		}
		cut, _, e := interpreter.Run(q, x.Name, b, input)
		if e != api.OK || cut.Fault != api.FaultNone || x.Result.Kind != api.TypeNone && !slices.Equal(o.Out, cut.Out) {
			t.Fatal(text(t, p.Tree), text(t, n), input, o, cut, e)
		}
		had, has := values(t, p, procedure, node, variable, b, input), values(t, q, procedure, number, index, b, input)
		if !slices.EqualFunc(had, has, slices.Equal[[]int]) {
			t.Fatal(text(t, p.Tree), text(t, n), node, variable, input, had, has)
		}
		count += len(had)
	}
	return count
}

func TestSlicesHaveTheSameValues(t *testing.T) {
	r := rand.New(rand.NewSource(3))
	count := 0
	for range 350 {
		p := random(t, r)
		for i, procedure := range p.Procedures {
			f, _ := flow.Of(p, i)
			if len(f.Points) == 2 || len(procedure.Variables) == 0 {
				continue
			}
			for range 4 {
				node := f.Points[2+r.Intn(len(f.Points)-2)].Node
				count += slice(t, r, p, i, node, r.Intn(len(procedure.Variables)))
			}
		}
	}
	if count < 2000 {
		t.Error("only", count, "values")
	}
}
