package checker_test

import (
	"cmp"
	"math/rand"
	"reflect"
	"slices"
	"strconv"
	"strings"
	"testing"

	"assessor/api"
	"assessor/checker"
	"assessor/constraints"
	"assessor/names"
	"assessor/parser"
	"assessor/samples"
	"assessor/tree"
	"assessor/types"
)

// writer makes random programs, and spoils them.
type writer struct{ r *rand.Rand }

func writers(seed int64) *writer { return &writer{rand.New(rand.NewSource(seed))} }

func (w *writer) program() (api.Node, string) { return samples.Program(w.r) }

// spoil changes something in a tree, so that often it is wrong, but still has the shape of a program.
func (w *writer) spoil(n api.Node) api.Node {
	nodes, _ := numbered(n)
	for {
		path := w.path(n)
		k, _ := tree.Get(n, path...)
		other, _ := tree.Get(n, w.path(n)...)
		switch w.r.Intn(6) {
		case 0:
			k = other
		case 1:
			if i := len(k.Kids) - 1; i >= 0 && tree.List(k.Kind) {
				k.Kids = slices.Delete(k.Kids, w.r.Intn(i+1), i+1)
			}
		case 2:
			if tree.List(k.Kind) {
				k.Kids = append(k.Kids, other)
			}
		case 3:
			k = w.retype(k, other)
		case 4:
			w.rename(&k, nodes)
		case 5:
			change(&k, nodes)
		}
		m := k
		if len(path) > 0 {
			last := len(path) - 1
			m, _ = tree.Replace(n, path[:last], path[last], path[last]+1, k)
		}
		if tree.Valid(m) && !tree.Same(m, n) {
			return m
		}
	}
}

// retype leaves something out of a node, or makes it one of another kind or with another Text.
func (w *writer) retype(k, other api.Node) api.Node {
	switch k.Kind {
	case api.NodeType, api.NodeArrayType:
		return node(api.NodeNone, "")
	case api.NodeReturn:
		return node(k.Kind, "", node(api.NodeNone, ""))
	case api.NodeParameter:
		k.Kind = api.NodeVarParameter
	default:
		k.Text = other.Text
	}
	return k
}

// rename gives a name the Text of another variable, or of another procedure.
func (w *writer) rename(k *api.Node, nodes []api.Node) {
	var l []string
	for _, d := range nodes {
		variable := k.Kind == api.NodeName && (d.Kind == api.NodeFor || d.Kind == api.NodeVar)
		if variable || (k.Kind == api.NodeDo || k.Kind == api.NodeCall) && d.Kind == api.NodeProcedure {
			l = append(l, d.Text)
		}
	}
	if len(l) > 0 {
		k.Text = l[w.r.Intn(len(l))]
	}
}

// change lets a loop change its variable, by an assignment and by calls.
func change(k *api.Node, nodes []api.Node) {
	if k.Kind != api.NodeFor {
		return
	}
	variable := node(api.NodeName, k.Text)
	block := &k.Kids[2]
	block.Kids = append(block.Kids, node(api.NodeAssign, "", variable, node(api.NodeNumber, "1")))
	for _, d := range nodes {
		if d.Kind == api.NodeProcedure {
			block.Kids = append(block.Kids, node(api.NodeDo, d.Text, variable, variable))
		}
	}
}

// path returns that of any node.
func (w *writer) path(n api.Node) []int {
	path, _ := tree.Path(n, w.r.Intn(tree.Count(n)))
	return path
}

// numbered returns the nodes of a tree with their paths.
func numbered(n api.Node) ([]api.Node, [][]int) {
	var nodes []api.Node
	var paths [][]int
	var walk func(n api.Node, path []int)
	walk = func(n api.Node, path []int) {
		nodes, paths = append(nodes, n), append(paths, path)
		for i, k := range n.Kids {
			walk(k, append(slices.Clone(path), i))
		}
	}
	walk(n, nil)
	return nodes, paths
}

// definition is the chapter's diagnostics of a tree, by the paths of nodes.
type definition struct {
	root  api.Node
	nodes []api.Node
	paths [][]int
	names api.Resolution
	found []api.Diagnostic
}

func (d *definition) report(wrong bool, code int, n api.Node) {
	if wrong {
		d.found = append(d.found, api.Diagnostic{Code: code, At: n.At, End: n.End})
	}
}

// number returns the number of the node with a path.
func (d *definition) number(path ...int) int {
	number, _ := tree.Number(d.root, path...)
	return number
}

// kind returns the kind of the declaration of a name, or -1.
func (d *definition) kind(number int) int {
	if i := d.names.Uses[number]; i >= 0 {
		return d.names.Declarations[i].Kind
	}
	return -1
}

// calls reports whether a procedure calls another one in so many calls at most.
func (d *definition) calls(from, to, steps int) bool {
	for number, n := range d.nodes {
		if (n.Kind == api.NodeCall || n.Kind == api.NodeDo) && d.kind(number) == api.DeclProcedure && d.paths[number][0] == from {
			called := d.paths[d.names.Declarations[d.names.Uses[number]].Node][0]
			if called == to || steps > 1 && d.calls(called, to, steps-1) {
				return true
			}
		}
	}
	return false
}

func (d *definition) types() {
	l, _ := constraints.Collect(d.root)
	solved, chains, _ := constraints.Solve(len(d.nodes), l)
	conflict := map[int]bool{}
	for _, chain := range chains {
		steps := constraints.Explain(l, chain)
		d.found = append(d.found, api.Diagnostic{Code: api.DiagConflict, At: steps[0].At, End: steps[0].End, Chain: steps})
		conflict[l[chain[0]].A] = true
	}
	for range d.nodes {
		for _, c := range l {
			if c.Kind == api.StepEqual && (conflict[c.A] || conflict[c.B]) {
				conflict[c.A], conflict[c.B] = true, true
			}
		}
	}
	for number, n := range d.nodes {
		variable := n.Kind == api.NodeParameter || n.Kind == api.NodeVarParameter || n.Kind == api.NodeVar
		if variable && solved[number].Kind == api.TypeNone && !conflict[number] {
			d.found = append(d.found, api.Diagnostic{Code: api.DiagUntyped, At: n.At, End: n.End, Text: n.Text})
		}
	}
}

func (d *definition) rules() {
	before := map[int]int{}
	for number, n := range d.nodes {
		hasResult := false
		if path := d.paths[number]; len(path) > 0 {
			p := d.root.Kids[path[0]]
			hasResult = p.Kind == api.NodeProcedure && p.Kids[1].Kind != api.NodeNone
		}
		switch n.Kind {
		case api.NodeRecord:
			d.report(before[n.Kind] >= api.MaxRecords || len(n.Kids) > api.MaxFields, api.DiagMany, n)
		case api.NodeProcedure:
			d.report(before[n.Kind] >= api.MaxProcedures, api.DiagMany, n)
			d.report(d.calls(d.paths[number][0], d.paths[number][0], len(d.root.Kids)), api.DiagCycle, n)
		case api.NodeParameters:
			d.report(len(n.Kids) > api.MaxParameters, api.DiagMany, n)
		case api.NodeVarParameter:
			d.report(hasResult, api.DiagVar, n)
		case api.NodeArrayType:
			length, _ := strconv.Atoi(n.Text)
			d.report(length == 0 || length > api.MaxArray, api.DiagMany, n)
		case api.NodeList:
			d.report(len(n.Kids) > api.MaxArray, api.DiagMany, n)
		case api.NodeAssign:
			place := append(slices.Clone(d.paths[number]), 0)
			if n.Kids[0].Kind != api.NodeName {
				place = append(place, 0)
			}
			d.report(d.kind(d.number(place...)) == api.DeclLoop, api.DiagLoop, n)
		case api.NodeReturn:
			d.report(hasResult != (n.Kids[0].Kind != api.NodeNone), api.DiagReturn, n)
		case api.NodeDo, api.NodeCall:
			d.call(number, n)
		}
		before[n.Kind]++
	}
}

func (d *definition) call(number int, n api.Node) {
	kind := d.kind(number)
	if kind < 0 {
		return
	}
	declared := d.nodes[d.names.Declarations[d.names.Uses[number]].Node]
	if kind == api.DeclRecord {
		d.report(len(n.Kids) != len(declared.Kids), api.DiagCount, n)
		return
	}
	parameters := declared.Kids[0].Kids
	d.report(len(n.Kids) != len(parameters), api.DiagCount, n)
	d.report((n.Kind == api.NodeDo) == (declared.Kids[1].Kind != api.NodeNone), api.DiagResult, n)
	for i, k := range n.Kids {
		if i >= len(parameters) || parameters[i].Kind != api.NodeVarParameter {
			continue
		}
		at := d.number(append(slices.Clone(d.paths[number]), i)...)
		bad := k.Kind != api.NodeName
		for j := range i {
			other := d.number(append(slices.Clone(d.paths[number]), j)...)
			same := n.Kids[j].Kind == api.NodeName && d.names.Uses[other] >= 0 && d.names.Uses[other] == d.names.Uses[at]
			bad = bad || same && parameters[j].Kind == api.NodeVarParameter
		}
		d.report(bad, api.DiagArgument, k)
		d.report(k.Kind == api.NodeName && d.kind(at) == api.DeclLoop, api.DiagLoop, k)
	}
}

// diagnostics returns those of both first phases.
func diagnostics(n api.Node) []api.Diagnostic {
	d := &definition{root: n}
	d.nodes, d.paths = numbered(n)
	r, unknown, _ := names.Resolve(n)
	d.names = r
	d.types()
	if len(unknown) > 0 {
		d.found = slices.DeleteFunc(d.found, func(x api.Diagnostic) bool { return x.Code == api.DiagUntyped })
	}
	d.rules()
	l := append(unknown, d.found...)
	slices.SortStableFunc(l, func(a, b api.Diagnostic) int { return cmp.Compare(a.At, b.At) })
	return l
}

func TestDiagnosticsLikeTheDefinition(t *testing.T) {
	w := writers(1)
	right, found := 0, map[int]int{}
	for range 400 {
		n, s := w.program()
		if s == "" || tree.Count(n) > 250 {
			continue
		}
		if p, l, e := checker.Check(s); len(l) > 0 || e != api.OK || len(p.Types) != tree.Count(n) {
			t.Fatal(s, l, e)
		}
		right++
		for range 3 {
			n, s = samples.Text(w.spoil(n))
			if s == "" || tree.Count(n) > 250 {
				break
			}
			want := diagnostics(n)
			p, l, e := checker.Check(s)
			if len(l)+len(want) > 0 && !reflect.DeepEqual(l, want) || e != api.OK || (len(l) == 0) != (len(p.Types) > 0) {
				t.Fatalf("%s\n%v %v\n%v\n%v", s, p, e, l, want)
			}
			for _, x := range l {
				found[x.Code]++
			}
		}
	}
	for code := api.DiagUnknown; code <= api.DiagUntyped; code++ {
		if code != api.DiagMany && found[code] < 10 {
			t.Error(code, found[code])
		}
	}
	if right < 250 {
		t.Error(right)
	}
}

// P10.5

func TestCheckedProgramsAreTyped(t *testing.T) {
	w := writers(2)
	arguments := 0
	for range 300 {
		n, s := w.program()
		if s == "" || tree.Count(n) > 600 {
			continue
		}
		p := checked(t, s)
		nodes, paths := numbered(p.Tree)
		parameters := map[string][]api.Type{}
		for _, x := range p.Records {
			for _, f := range x.Fields {
				parameters[x.Name] = append(parameters[x.Name], f.Type)
			}
		}
		for _, x := range p.Procedures {
			for _, v := range x.Variables[:x.Parameters] {
				parameters[x.Name] = append(parameters[x.Name], v.Type)
			}
		}
		kid := func(number, i int) int {
			k, _ := tree.Number(p.Tree, append(slices.Clone(paths[number]), i)...)
			return k
		}
		for number, k := range nodes {
			expression := api.NodeName <= k.Kind && k.Kind <= api.NodeBinary
			if types.Valid(p.Types[number], p.Records) != expression || !expression && p.Types[number] != (api.Type{}) {
				t.Fatal(s, number, p.Types[number])
			}
			v, ok := checker.Variable(p, number)
			if k.Kind == api.NodeName && (!ok || v.Name != k.Text || v.Type != p.Types[number]) {
				t.Fatal(s, number, v)
			}
			if k.Kind != api.NodeCall && k.Kind != api.NodeDo {
				continue
			}
			for i, want := range parameters[k.Text] {
				arguments++
				if p.Types[kid(number, i)] != want {
					t.Fatal(s, number, i)
				}
			}
		}
	}
	if arguments < 400 {
		t.Error(arguments)
	}
}

// costs returns those of all procedures for all bounds.
func costs(t *testing.T, p api.Program) [][]int {
	var l [][]int
	for i := range p.Procedures {
		var own []int
		for loops := range api.MaxLoops + 1 {
			cost, e := checker.Cost(p, i, loops)
			if e != api.OK || loops > 0 && cost < own[loops-1] || cost < 0 || cost > api.MaxCost+1 {
				t.Fatal(p.Procedures[i], loops, cost, e)
			}
			own = append(own, cost)
		}
		l = append(l, own)
	}
	return l
}

func TestRenamingAndSpaceChangeNothing(t *testing.T) {
	w := writers(3)
	renamed, spaced := 0, 0
	for range 300 {
		n, s := w.program()
		if s == "" {
			continue
		}
		p, l, _ := checker.Tree(n)
		if len(l) > 0 {
			continue
		}
		want := costs(t, p)
		if wide := samples.Spread(w.r, s); len(wide) <= api.MaxSource {
			q := checked(t, wide)
			if !reflect.DeepEqual(q.Types, p.Types) || !reflect.DeepEqual(q.Names, p.Names) || !reflect.DeepEqual(q.Records, p.Records) || !reflect.DeepEqual(q.Procedures, p.Procedures) || !reflect.DeepEqual(costs(t, q), want) {
				t.Fatal(wide)
			}
			spaced++
		}
		r, _, _ := names.Resolve(n)
		d := w.r.Intn(len(r.Declarations))
		m, _ := names.Rename(n, d, "new_name")
		q, l, e := checker.Tree(m)
		if len(l) > 0 || e != api.OK || !reflect.DeepEqual(q.Names, p.Names) || !reflect.DeepEqual(costs(t, q), want) {
			t.Fatal(m, l, e)
		}
		for number, x := range p.Types {
			if x.Record == r.Declarations[d].Name {
				x.Record = "new_name"
			}
			if q.Types[number] != x {
				t.Fatal(m, number, x)
			}
		}
		renamed++
	}
	if renamed < 200 || spaced < 200 {
		t.Error(renamed, spaced)
	}
}

// P10.3 and P10.4, by their definitions.

func TestOrderOfRandomPrograms(t *testing.T) {
	w := writers(4)
	moved := 0
	for range 300 {
		_, s := w.program()
		p, l, _ := checker.Check(s)
		if len(l) > 0 {
			continue
		}
		order := checker.Order(p)
		var want []int
		for range p.Procedures {
			want = append(want, slices.IndexFunc(p.Procedures, func(x api.Procedure) bool {
				i, _ := checker.Find(p, x.Name)
				return !slices.Contains(want, i) && !slices.ContainsFunc(x.Calls, func(k int) bool { return !slices.Contains(want, k) })
			}))
		}
		if !slices.Equal(order, want) {
			t.Fatal(s, order, want)
		}
		if !slices.IsSorted(order) {
			moved++
		}
	}
	if moved < 25 {
		t.Error(moved)
	}
}

func TestSafetyOfRandomExpressions(t *testing.T) {
	w := writers(5)
	count := map[bool]int{}
	for range 150 {
		_, s := w.program()
		p, l, _ := checker.Check(s)
		if len(l) > 0 || len(p.Types) > 600 {
			continue
		}
		nodes, paths := numbered(p.Tree)
		for number, n := range nodes {
			if n.Kind < api.NodeName {
				continue
			}
			safe := true
			for other, k := range nodes {
				if len(paths[other]) < len(paths[number]) || !slices.Equal(paths[other][:len(paths[number])], paths[number]) {
					continue
				}
				switch k.Kind {
				case api.NodeBinary:
					safe = safe && !strings.Contains("/%", k.Text)
				case api.NodeCall:
					safe = safe && slices.ContainsFunc(p.Records, func(x api.Record) bool { return x.Name == k.Text })
				case api.NodeIndex:
					v, _ := checker.Variable(p, other+1)
					i := k.Kids[1]
					safe = safe && i.Kind == api.NodeNumber && (i.Text == "0" || i.Text == "1" && v.Type.Len > 1)
				}
			}
			if checker.Safe(p, number) != safe {
				t.Fatal(s, number, n, safe)
			}
			count[safe]++
		}
	}
	if count[true] < 1000 || count[false] < 300 {
		t.Error(count)
	}
}

func FuzzCheck(f *testing.F) {
	for _, s := range []string{"proc f(x){return x+1;}", "record r{a:int}proc f(var x:r,y:int[2]){for i=0 to len(y){x.a=g(y[1]);x=r(i);}}proc g(z):int{return z/2;}", "proc f(x){while x{f(x,1);}x=[1,x];}"} {
		f.Add(s)
	}
	f.Fuzz(func(t *testing.T, s string) {
		n, wrong, e := parser.Parse(s)
		p, l, f := checker.Check(s)
		if e != f || len(wrong) > 0 && !reflect.DeepEqual(l, wrong) {
			t.Fatal(l, wrong, e)
		}
		if e != api.OK || len(wrong) > 0 {
			return
		}
		if want := diagnostics(n); len(want) > 0 && !reflect.DeepEqual(l, want) {
			t.Fatal(l, want)
		}
		if (len(l) == 0) != (len(p.Types) > 0) {
			t.Fatal(l, p)
		}
		costs(t, p)
		for number := range p.Types {
			checker.Safe(p, number)
			checker.Variable(p, number)
		}
	})
}
