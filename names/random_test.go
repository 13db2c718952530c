package names_test

import (
	"math/rand"
	"reflect"
	"slices"
	"strconv"
	"strings"
	"testing"

	"assessor/api"
	"assessor/names"
	"assessor/parser"
	"assessor/tree"
)

// spec is the chapter's definitions, by the paths of nodes.
type spec struct {
	nodes        []api.Node
	paths        [][]int
	declarations []api.Declaration
	made         map[int]int // by node
	uses         []int
	problems     []api.Diagnostic
}

func (s *spec) list(n api.Node, path []int) {
	s.nodes = append(s.nodes, n)
	s.paths = append(s.paths, path)
	for i, k := range n.Kids {
		s.list(k, append(slices.Clone(path), i))
	}
}

// newSpec resolves a program.
func newSpec(n api.Node) *spec {
	s := &spec{made: map[int]int{}}
	s.list(n, nil)
	for i, k := range s.nodes {
		kind, ok := map[int]int{
			api.NodeRecord: api.DeclRecord, api.NodeField: api.DeclField, api.NodeProcedure: api.DeclProcedure,
			api.NodeParameter: api.DeclParameter, api.NodeVarParameter: api.DeclParameter, api.NodeVar: api.DeclVariable, api.NodeFor: api.DeclLoop,
		}[k.Kind]
		if !ok || s.already(i) {
			continue
		}
		owner := -1
		if len(s.paths[i]) > 1 {
			owner = slices.IndexFunc(s.paths, func(p []int) bool { return slices.Equal(p, s.paths[i][:1]) })
		}
		s.made[i] = len(s.declarations)
		s.declarations = append(s.declarations, api.Declaration{Kind: kind, Name: k.Text, Node: i, Owner: owner})
	}
	for i, k := range s.nodes {
		d, wrong := s.use(i)
		if wrong > 0 {
			s.problems = append(s.problems, api.Diagnostic{Code: wrong, At: k.At, End: k.End, Text: k.Text})
		}
		s.uses = append(s.uses, d)
	}
	return s
}

// already reports whether the name of a node that could make a declaration is declared already.
func (s *spec) already(number int) bool {
	n := s.nodes[number]
	global := func(k api.Node) bool { return k.Kind == api.NodeRecord || k.Kind == api.NodeProcedure }
	parameter := func(k api.Node) bool { return k.Kind == api.NodeParameter || k.Kind == api.NodeVarParameter }
	for i, k := range s.nodes {
		if k.Text != n.Text || i == number {
			continue
		}
		earlier := i < number
		switch n.Kind {
		case api.NodeRecord, api.NodeProcedure:
			if global(k) && earlier {
				return true
			}
		case api.NodeField:
			if k.Kind == n.Kind && earlier {
				return true
			}
		case api.NodeParameter, api.NodeVarParameter:
			if global(k) || parameter(k) && earlier && s.paths[i][0] == s.paths[number][0] {
				return true
			}
		default:
			if global(k) || earlier && s.visible(i, number) {
				return true
			}
		}
	}
	return false
}

func prefix(p, q []int) bool { return len(p) <= len(q) && slices.Equal(p, q[:len(p)]) }

// visible reports whether a node declares a variable that is visible at another one.
func (s *spec) visible(by, at int) bool {
	if _, ok := s.made[by]; !ok {
		return false
	}
	p, q := s.paths[by], s.paths[at]
	switch s.nodes[by].Kind {
	case api.NodeParameter, api.NodeVarParameter:
		return prefix([]int{p[0], 2}, q)
	case api.NodeVar:
		last := len(p) - 1
		return len(q) > last && prefix(p[:last], q) && q[last] > p[last]
	case api.NodeFor:
		return prefix(append(slices.Clone(p), 2), q)
	}
	return false
}

// use returns the index of the declaration of a node, and what is wrong with it.
func (s *spec) use(number int) (int, int) {
	if d, ok := s.made[number]; ok {
		return d, 0
	}
	var kinds []int
	n := s.nodes[number]
	switch n.Kind {
	case api.NodeRecord, api.NodeField, api.NodeProcedure, api.NodeParameter, api.NodeVarParameter, api.NodeVar, api.NodeFor:
		return -1, api.DiagDeclared
	case api.NodeName:
		kinds = []int{api.DeclParameter, api.DeclVariable, api.DeclLoop}
	case api.NodeMember:
		kinds = []int{api.DeclField}
	case api.NodeCall:
		kinds = []int{api.DeclProcedure, api.DeclRecord}
	case api.NodeDo:
		kinds = []int{api.DeclProcedure}
	case api.NodeType:
		if n.Text != "int" && n.Text != "bool" {
			kinds = []int{api.DeclRecord}
		}
	}
	if kinds == nil {
		return -1, 0
	}
	for i, d := range s.declarations {
		if d.Name == n.Text && slices.Contains(kinds, d.Kind) && (n.Kind != api.NodeName || s.visible(d.Node, number)) {
			return i, 0
		}
	}
	return -1, api.DiagUnknown
}

// all returns the indices of the variables that are visible at a node.
func (s *spec) all(number int) []int {
	var l []int
	for i, d := range s.declarations {
		if s.visible(d.Node, number) {
			l = append(l, i)
		}
	}
	return l
}

// writer makes random programs. With the chance wild (in percent) a name is any one; otherwise it fits.
type writer struct {
	r          *rand.Rand
	wild, last int
	globals    map[string]int // the kinds of the nodes of records and procedures
	fields     []string
	variables  []string
}

func (w *writer) chance(percent int) bool { return w.r.Intn(100) < percent }

func (w *writer) one(l []string) string { return l[w.r.Intn(len(l))] }

func (w *writer) any() string { return w.one(strings.Fields("a b c d e f g r s x y z")) }

// fresh returns a name that no variable has that is visible, and no record and no procedure.
func (w *writer) fresh() string {
	for {
		name := w.any()
		if w.chance(20) {
			w.last++
			name = "v" + strconv.Itoa(w.last)
		}
		if _, ok := w.globals[name]; w.chance(w.wild) || !ok && !slices.Contains(w.variables, name) {
			return name
		}
	}
}

// global returns the name of a record or a procedure, and false if there is none.
func (w *writer) global(kind int) (string, bool) {
	if w.chance(w.wild) {
		return w.any(), true
	}
	for _, name := range strings.Fields("f r g s h") {
		if w.globals[name] == kind && w.chance(70) {
			return name, true
		}
	}
	return "", false
}

func (w *writer) program() api.Node {
	w.globals, w.fields, w.variables = map[string]int{}, nil, nil
	n := node(api.NodeProgram, "")
	for _, name := range strings.Fields("f r g s h") {
		if w.chance(70) {
			w.globals[name] = map[bool]int{true: api.NodeRecord, false: api.NodeProcedure}[name == "r" || name == "s"]
		}
	}
	for _, name := range strings.Fields("a b r x y") {
		if w.globals["r"] > 0 && w.chance(60) {
			w.fields = append(w.fields, name)
		}
	}
	if w.fields == nil {
		delete(w.globals, "r")
		delete(w.globals, "s")
	}
	for _, name := range strings.Fields("f g h s r") {
		switch w.globals[name] {
		case api.NodeProcedure:
			n.Kids = append(n.Kids, w.procedure(name))
		case api.NodeRecord:
			n.Kids = append(n.Kids, w.record(name))
		}
	}
	if w.chance(w.wild * 3) {
		n.Kids = append(n.Kids, w.procedure(w.any()), w.record(w.any()))
	}
	w.r.Shuffle(len(n.Kids), func(i, j int) { n.Kids[i], n.Kids[j] = n.Kids[j], n.Kids[i] })
	w.place(&n)
	return n
}

// place gives each node a place of its own.
func (w *writer) place(n *api.Node) {
	w.last++
	n.At, n.End = w.last, w.last+w.r.Intn(5)
	for i := range n.Kids {
		w.place(&n.Kids[i])
	}
}

func (w *writer) record(name string) api.Node {
	n := node(api.NodeRecord, name)
	for i, field := range w.fields {
		// The fields are parted between both records.
		if w.globals["s"] == 0 || len(w.fields) == 1 || (i == 0) == (name == "s") || w.chance(w.wild) {
			n.Kids = append(n.Kids, node(api.NodeField, field, node(api.NodeType, w.one([]string{"int", "bool"}))))
		}
	}
	if n.Kids == nil || w.globals["s"] > 0 && len(w.fields) == 1 && name == "s" {
		n.Kids = []api.Node{node(api.NodeField, "only_"+name, node(api.NodeType, "int"))}
	}
	return n
}

func (w *writer) procedure(name string) api.Node {
	w.variables = nil
	parameters := node(api.NodeParameters, "")
	for range w.r.Intn(4) {
		p := node(api.NodeParameter+w.r.Intn(2), w.fresh(), w.typed())
		w.variables = append(w.variables, p.Text)
		parameters.Kids = append(parameters.Kids, p)
	}
	return node(api.NodeProcedure, name, parameters, w.typed(), w.block(3))
}

func (w *writer) typed() api.Node {
	switch w.r.Intn(5) {
	case 0:
		return node(api.NodeType, w.one([]string{"int", "bool"}))
	case 1:
		return node(api.NodeArrayType, "3")
	case 2, 3:
		if name, ok := w.global(api.NodeRecord); ok {
			return node(api.NodeType, name)
		}
	}
	return node(api.NodeNone, "")
}

func (w *writer) block(levels int) api.Node {
	n := node(api.NodeBlock, "")
	visible := len(w.variables)
	for range w.r.Intn(5) {
		n.Kids = append(n.Kids, w.statement(levels-1))
	}
	w.variables = w.variables[:visible]
	return n
}

func (w *writer) statement(levels int) api.Node {
	kind := api.NodeVar + w.r.Intn(9)
	if levels <= 0 && kind >= api.NodeIf && kind <= api.NodeFor || kind > api.NodeDo {
		kind = api.NodeVar
	}
	switch kind {
	case api.NodeAssign:
		if place, ok := w.use(); ok {
			return node(kind, "", place, w.expression(3))
		}
	case api.NodeIf:
		other := node(api.NodeNone, "")
		switch w.r.Intn(3) {
		case 0:
			other = w.block(levels)
		case 1:
			other = node(kind, "", w.expression(2), w.block(levels-1), node(api.NodeNone, ""))
		}
		return node(kind, "", w.expression(2), w.block(levels), other)
	case api.NodeWhile:
		return node(kind, "", w.expression(2), w.block(levels))
	case api.NodeFor:
		from, to := w.expression(2), w.expression(1)
		n := node(kind, w.fresh(), from, to)
		visible := len(w.variables)
		w.variables = append(w.variables, n.Text)
		n.Kids = append(n.Kids, w.block(levels))
		w.variables = w.variables[:visible]
		return n
	case api.NodeReturn:
		if w.chance(50) {
			return node(kind, "", node(api.NodeNone, ""))
		}
		return node(kind, "", w.expression(3))
	case api.NodeAssert:
		return node(kind, "", w.expression(3))
	case api.NodeDo:
		if name, ok := w.global(api.NodeProcedure); ok {
			return node(kind, name, w.list(2)...)
		}
	}
	value := w.expression(3)
	n := node(api.NodeVar, w.fresh(), w.typed(), value)
	w.variables = append(w.variables, n.Text)
	return n
}

func (w *writer) list(levels int) []api.Node {
	var l []api.Node
	for range w.r.Intn(3) {
		l = append(l, w.expression(levels))
	}
	return l
}

// use returns a place.
func (w *writer) use() (api.Node, bool) {
	if w.chance(w.wild) {
		return node(api.NodeMember, w.any(), node(api.NodeName, w.any())), true
	}
	if len(w.variables) == 0 {
		return api.Node{}, false
	}
	name := node(api.NodeName, w.one(w.variables))
	switch {
	case w.chance(20):
		return node(api.NodeIndex, "", name, w.expression(1)), true
	case w.chance(20) && w.globals["r"] > 0 && (w.globals["s"] == 0 || len(w.fields) > 1):
		return node(api.NodeMember, w.one(w.fields), name), true
	}
	return name, true
}

func (w *writer) expression(levels int) api.Node {
	if levels > 0 {
		switch w.r.Intn(8) {
		case 0, 1:
			return node(api.NodeBinary, w.one(strings.Fields("+ - and <")), w.expression(levels-1), w.expression(levels-1))
		case 2:
			return node(api.NodeUnary, "not", w.expression(levels-1))
		case 3:
			if name, ok := w.global(api.NodeProcedure + []int{0, api.NodeRecord - api.NodeProcedure}[w.r.Intn(2)]); ok {
				return node(api.NodeCall, name, w.list(levels-1)...)
			}
		case 4:
			return node(api.NodeList, "", append(w.list(levels-1), w.expression(levels-1))...)
		}
	}
	if place, ok := w.use(); ok && !w.chance(10) {
		if place.Kind == api.NodeName && w.chance(10) {
			return node(api.NodeLen, "", place)
		}
		return place
	}
	return node(api.NodeNumber, "1")
}

func writers(seed int64, wild int) *writer {
	return &writer{r: rand.New(rand.NewSource(seed)), wild: wild}
}

func equal(a, b any) bool { return reflect.DeepEqual(a, b) }

// compare compares the functions with the definitions for a program.
func compare(t *testing.T, n api.Node) *spec {
	t.Helper()
	before, _ := tree.Get(n)
	want := newSpec(n)
	r, l, e := names.Resolve(n)
	if !slices.Equal(r.Declarations, want.declarations) || !slices.Equal(r.Uses, want.uses) || len(l)+len(want.problems) > 0 && !equal(l, want.problems) || e != api.OK {
		t.Fatal(n, "\n", r, l, e, "\n", want.declarations, want.uses, want.problems)
	}
	for number := range want.nodes {
		var visible []int
		if p := want.paths[number]; len(p) > 1 && p[1] == 2 && n.Kids[p[0]].Kind == api.NodeProcedure {
			visible = want.all(number)
		}
		if l := names.Visible(n, number); !slices.Equal(l, visible) {
			t.Fatal(n, number, l, visible)
		}
	}
	for d := range r.Declarations {
		var uses []int
		for number, u := range want.uses {
			if u == d {
				uses = append(uses, number)
			}
		}
		if l := names.Uses(r, d); !slices.Equal(l, uses) {
			t.Fatal(n, d, l, uses)
		}
	}
	if !equal(n, before) {
		t.Fatal("changed", n, before)
	}
	return want
}

// P7.1 to P7.3

func TestLikeTheDefinitions(t *testing.T) {
	clean, wrong := 0, map[int]int{}
	for _, wild := range []int{0, 2, 10, 40} {
		w := writers(int64(wild), wild)
		for range 50 {
			n := w.program()
			if !tree.Valid(n) {
				t.Fatal(n)
			}
			s := compare(t, n)
			if len(s.problems) == 0 {
				clean++
			}
			if wild == 0 && len(s.problems) > 0 {
				t.Fatal(n, s.problems)
			}
			for _, d := range s.problems {
				wrong[d.Code]++
			}
		}
	}
	if clean < 50 || wrong[api.DiagDeclared] < 150 || wrong[api.DiagUnknown] < 400 {
		t.Error(clean, wrong)
	}
}

// P7.4, and P7.6: names can be renamed to new ones, and back.

func TestRenameAndBack(t *testing.T) {
	w := writers(3, 0)
	done := map[api.Errno]int{}
	for range 60 {
		n := w.program()
		before, _ := tree.Get(n)
		s := newSpec(n)
		for i, d := range s.declarations {
			for _, name := range []string{"new", w.any(), d.Name} {
				m, e := names.Rename(n, i, name)
				want, _ := tree.Get(n)
				for number, u := range s.uses {
					if u == i {
						at := &want
						for _, k := range s.paths[number] {
							at = &at.Kids[k]
						}
						at.Text = name
					}
				}
				after := newSpec(want)
				if len(after.problems) > 0 || !slices.Equal(after.uses, s.uses) {
					if e != api.ErrExists || !equal(m, api.Node{}) {
						t.Fatal(n, i, name, m, e)
					}
					done[e]++
					continue
				}
				if e != api.OK || !equal(m, want) {
					t.Fatal(n, i, name, m, e)
				}
				if back, e := names.Rename(m, i, d.Name); e != api.OK || !equal(back, n) {
					t.Fatal(n, i, name, back, e)
				}
				done[e]++
				m.Kids[0].Text = "changed"
			}
			if _, e := names.Rename(n, i, "new"); e != api.OK {
				t.Fatal(n, i, e)
			}
		}
		if !equal(n, before) {
			t.Fatal("changed", n, before)
		}
	}
	if done[api.OK] < 800 || done[api.ErrExists] < 100 {
		t.Error(done)
	}
}

// P7.6: every variable that is visible at a NodeName can stand there instead, and no other one.

func TestVisibleVariablesCanStand(t *testing.T) {
	w := writers(4, 0)
	can, not := 0, 0
	for range 15 {
		n := w.program()
		s := newSpec(n)
		for number, k := range s.nodes {
			if k.Kind != api.NodeName {
				continue
			}
			visible := names.Visible(n, number)
			path := s.paths[number]
			for d, declaration := range s.declarations {
				other := node(api.NodeName, declaration.Name)
				last := len(path) - 1
				m, _ := tree.Replace(n, path[:last], path[last], path[last]+1, other)
				r, l, _ := names.Resolve(m)
				ok := len(l) == 0 && r.Uses[number] == d
				if ok != slices.Contains(visible, d) {
					t.Fatal(n, number, d, visible, l)
				}
				if ok {
					can++
				} else {
					not++
				}
			}
		}
	}
	if can < 100 || not < 100 {
		t.Error(can, not)
	}
}

// P7.6: the order of procedures and records does not matter.

func TestOrderOfProcedures(t *testing.T) {
	w := writers(5, 0)
	for range 500 {
		n := w.program()
		declares := func(n api.Node) map[int]int {
			r, l, e := names.Resolve(n)
			if len(l) > 0 || e != api.OK {
				t.Fatal(n, l, e)
			}
			by := map[int]int{}
			all := nodes(n)
			for number, d := range r.Uses {
				if d >= 0 {
					by[all[number].At] = all[r.Declarations[d].Node].At
				}
			}
			return by
		}
		m, _ := tree.Get(n)
		w.r.Shuffle(len(m.Kids), func(i, j int) { m.Kids[i], m.Kids[j] = m.Kids[j], m.Kids[i] })
		if !equal(declares(n), declares(m)) {
			t.Fatal(n, m)
		}
	}
}

// P7.5

// freeNames returns the free names of a tree by their definition.
func freeNames(n api.Node) []string {
	s := &spec{made: map[int]int{}}
	s.list(n, nil)
	for i := range s.nodes {
		s.made[i] = i
	}
	var l []string
	for i, k := range s.nodes {
		declared := slices.Contains(l, k.Text) || k.Kind != api.NodeName
		for j, d := range s.nodes {
			if d.Text == k.Text && j != i && (d.Kind == api.NodeVar && len(s.paths[j]) > 0 || d.Kind == api.NodeFor) {
				declared = declared || s.visible(j, i)
			}
		}
		if !declared {
			l = append(l, k.Text)
		}
	}
	return l
}

// spoil changes some nodes of a tree into others that cannot stand there.
func spoil(r *rand.Rand, n *api.Node) {
	for i := range n.Kids {
		spoil(r, &n.Kids[i])
	}
	switch r.Intn(20) {
	case 0:
		n.Kind = []int{api.NodeVar, api.NodeFor, api.NodeName, api.NodeNone, -1}[r.Intn(5)]
		n.Text = []string{"a", "b", "x", "y", "", n.Text}[r.Intn(6)]
	case 1:
		r.Shuffle(len(n.Kids), func(i, j int) { n.Kids[i], n.Kids[j] = n.Kids[j], n.Kids[i] })
	case 2:
		if len(n.Kids) > 0 {
			n.Kids = slices.Concat(n.Kids, n.Kids[:1+r.Intn(len(n.Kids))])
		}
	}
}

func TestFreeLikeTheDefinition(t *testing.T) {
	w := writers(6, 30)
	some, most := 0, 0
	for i := range 3000 {
		n := w.program()
		if i%2 == 0 {
			n = w.statement(4)
		}
		if i%4 < 2 {
			spoil(w.r, &n)
		}
		before, _ := tree.Get(n)
		l, want := names.Free(n), freeNames(n)
		if !slices.Equal(l, want) {
			t.Fatal(n, l, want)
		}
		if !equal(n, before) {
			t.Fatal("changed", n)
		}
		if len(l) > 0 {
			some++
		}
		most = max(most, len(l))
	}
	if some < 1500 || most < 6 {
		t.Error(some, most)
	}
}

func TestResultsAreNew(t *testing.T) {
	n := program(t, "proc f(x){x=x;}")
	a, _, _ := names.Resolve(n)
	a.Uses[1], a.Declarations[0].Name = 7, "changed"
	names.Visible(n, 7)[0] = 9
	b, _, _ := names.Resolve(n)
	if b.Uses[1] != 0 || b.Declarations[0].Name != "f" || !slices.Equal(names.Visible(n, 7), []int{1}) {
		t.Error(b)
	}
	m, _ := names.Rename(n, 1, "x")
	m.Kids[0].Kids[2].Kids[0].Kids[0].Text = "changed"
	if !equal(n, program(t, "proc f(x){x=x;}")) {
		t.Error(n)
	}
}

func FuzzResolve(f *testing.F) {
	for _, s := range []string{"proc f(x){var y=x;g(y);}proc g(z){}", "record r{a:int}proc f(x:r){for i=1to x.a{var y=r(i);if y{f(y);}else{x=y;}}}", "proc f(f,a,a){while a{var a=1;for b=b to 2{}}}"} {
		f.Add(s)
	}
	f.Fuzz(func(t *testing.T, s string) {
		n, l, e := parser.Parse(s)
		if e != api.OK || len(l) > 0 {
			if _, _, e := names.Resolve(n); tree.Valid(n) != (e == api.OK) {
				t.Fatal(e)
			}
			return
		}
		compare(t, n)
		if l, want := names.Free(n), freeNames(n); !slices.Equal(l, want) {
			t.Fatal(l, want)
		}
	})
}
