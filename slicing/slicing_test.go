package slicing_test

import (
	"math"
	"reflect"
	"slices"
	"strings"
	"testing"

	"assessor/api"
	"assessor/checker"
	"assessor/printer"
	"assessor/slicing"
	"assessor/tree"
)

// checked returns a program with a text.
func checked(t *testing.T, s string) api.Program {
	t.Helper()
	p, l, e := checker.Check(s)
	if len(l) > 0 || e != api.OK {
		t.Fatal(s, l, e)
	}
	return p
}

// text returns the canonical text of a tree, in one line.
func text(t *testing.T, n api.Node) string {
	t.Helper()
	s, e := printer.Format(n)
	if e != api.OK {
		t.Fatal(n, e)
	}
	return strings.Join(strings.Fields(s), " ")
}

// statements returns the numbers of the statements of the last procedure.
func statements(n api.Node) []int {
	var l []int
	number := 0
	var visit func(api.Node)
	visit = func(n api.Node) {
		switch {
		case n.Kind == api.NodeProcedure:
			l = nil
		case n.Kind >= api.NodeVar && n.Kind <= api.NodeDo:
			l = append(l, number)
		}
		number++
		for _, k := range n.Kids {
			visit(k)
		}
	}
	visit(n)
	return l
}

// named returns the index of the first variable with a name.
func named(l []api.Variable, name string) int {
	return slices.IndexFunc(l, func(v api.Variable) bool { return v.Name == name })
}

// P20.1

func TestTyped(t *testing.T) {
	for s, want := range map[string]string{
		"":                              "",
		"proc f() { }":                  "proc f() { }",
		"proc f(x) { x = 1; }":          "proc f(x: int) { x = 1; }",
		"proc f(var x) { x = true; }":   "proc f(var x: bool) { x = true; }",
		"proc f(x) { x = [1, 2, 3]; }":  "proc f(x: int[3]) { x = [1, 2, 3]; }",
		"proc f(x: int, y) { y = x; }":  "proc f(x: int, y: int) { y = x; }",
		"proc f(): bool { return 1<2;}": "proc f(): bool { return 1 < 2; }",
		"proc f() { var a = 1; var b: bool = true; var c = [a]; var d: int[1] = c; }":                                "proc f() { var a: int = 1; var b: bool = true; var c: int[1] = [a]; var d: int[1] = c; }",
		"record r { a: int, b: bool } proc f(x, var y) { x.a = 1; y = x; var z = x; if x.b { var w = z.a; } }":       "record r { a: int, b: bool } proc f(x: r, var y: r) { x.a = 1; y = x; var z: r = x; if x.b { var w: int = z.a; } }",
		"proc f(x) { for i = 1 to x { var y = i; } while x > 1 { } return; assert x > 1; } record r { b: bool }":     "proc f(x: int) { for i = 1 to x { var y: int = i; } while x > 1 { } return; assert x > 1; } record r { b: bool }",
		"proc g(y) { f(y); } proc f(var x) { var z = 1 < 2; x = 1; } proc h(a): bool { var b = not a; return b; }":   "proc g(y: int) { f(y); } proc f(var x: int) { var z: bool = 1 < 2; x = 1; } proc h(a: bool): bool { var b: bool = not a; return b; }",
		"proc f(c) { if c { var x = 1; } else if not c { var x = true; } else { var x = [1]; } }":                    "proc f(c: bool) { if c { var x: int = 1; } else if not c { var x: bool = true; } else { var x: int[1] = [1]; } }",
		"proc f() { var x = g(1); } proc g(y): int[8] { return [y, y, y, y, y, y, y, y]; }":                          "proc f() { var x: int[8] = g(1); } proc g(y: int): int[8] { return [y, y, y, y, y, y, y, y]; }",
		"record int2 { a: int } record point { b: bool } proc f(p) { var q = point(true); var r = int2(1); p = q; }": "record int2 { a: int } record point { b: bool } proc f(p: point) { var q: point = point(true); var r: int2 = int2(1); p = q; }",
	} {
		n := slicing.Typed(checked(t, s))
		if got := text(t, n); got != want {
			t.Errorf("%s\n%s instead of\n%s", s, got, want)
		}
		if !reflect.DeepEqual(n, tree.Bare(n)) {
			t.Error(s, "has places", n)
		}
	}
	if n := slicing.Typed(api.Program{}); !tree.Same(n, api.Node{}) {
		t.Error(n)
	}
}

// P20.2, P20.3

func TestSlices(t *testing.T) {
	for _, x := range []struct {
		s         string
		statement int // its index in those of the last procedure
		variable  string
		kept      []int // likewise
		slice     string
	}{
		// The example of the chapter, and the other assertion.
		{"proc f(x) { var s = 0; var t = 1; while x > 0 { s = s + x; t = t * x; x = x - 1; } assert s > 0; assert t > 0; }", 6, "s",
			[]int{0, 2, 3, 5, 6}, "proc f(x: int) { var s: int = 0; while x > 0 { s = s + x; x = x - 1; } assert s > 0; }"},
		{"proc f(x) { var s = 0; var t = 1; while x > 0 { s = s + x; t = t * x; x = x - 1; } assert s > 0; assert t > 0; }", 7, "t",
			[]int{1, 2, 4, 5, 7}, "proc f(x: int) { var t: int = 1; while x > 0 { t = t * x; x = x - 1; } assert t > 0; }"},
		// The variable need not be used at the statement, whose own variables count as well.
		{"proc f(x: int) { var y = 1; var z = 2; var u = 3; assert z > 0; }", 3, "y",
			[]int{0, 1, 3}, "proc f(x: int) { var y: int = 1; var z: int = 2; assert z > 0; }"},
		{"proc f(x: int) { var y = 1; x = 2; assert y > 0; }", 2, "x", []int{0, 1, 2}, "proc f(x: int) { var y: int = 1; x = 2; assert y > 0; }"},
		// A definition that does not reach the statement is left out, but not the declaration.
		{"proc f(x: int) { var y = x; x = 1; y = 2; assert true; y = 3; }", 3, "y", []int{0, 2, 3}, "proc f(x: int) { var y: int = x; y = 2; assert true; }"},
		{"proc f() { assert true; var y = 1; y = 2; }", 0, "y", []int{0, 1}, "proc f() { assert true; var y: int = 1; }"},
		{"proc f() { assert true; for i = 1 to 2 { assert false; } }", 0, "i", []int{0, 1}, "proc f() { assert true; for i = 1 to 2 { } }"},
		// Parts of an array keep each other, and what they use.
		{"proc f(i: int) { var l = [1, 2]; l = [3, 4]; var j = i; l[j] = 5; l[0] = 6; assert true; }", 5, "l",
			[]int{0, 1, 2, 3, 4, 5}, "proc f(i: int) { var l: int[2] = [1, 2]; l = [3, 4]; var j: int = i; l[j] = 5; l[0] = 6; assert true; }"},
		{"record r { a: int, b: int } proc f(q: r) { q.a = 1; q.b = 2; q = r(3, 4); q.a = 5; assert q.b == 4; }", 4, "q",
			[]int{2, 3, 4}, "record r { a: int, b: int } proc f(q: r) { q = r(3, 4); q.a = 5; assert q.b == 4; }"},
		// Returns are kept, with what they depend on, also behind the statement, and if they cannot be reached.
		{"proc f(x: int): int { var y = 1; var z = 2; if y > x { return z; } assert true; return 3; x = 4; return x; }", 4, "x",
			[]int{0, 1, 2, 3, 4, 5, 6, 7}, "proc f(x: int): int { var y: int = 1; var z: int = 2; if y > x { return z; } assert true; return 3; x = 4; return x; }"},
		{"proc f(x: int) { x = 1; if x > 0 { x = 2; return; } x = 3; }", 4, "x", []int{0, 1, 3, 4}, "proc f(x: int) { x = 1; if x > 0 { return; } x = 3; }"},
		{"proc f(x: int) { while x > 0 { if x > 1 { return; } x = 1; } x = 2; x = 3; }", 4, "x", []int{0, 1, 2, 3, 4}, "proc f(x: int) { while x > 0 { if x > 1 { return; } x = 1; } x = 2; }"},
		// What the statement depends on by tests, and what contains it.
		{"proc f(x: int, y: int) { if x > 0 { x = 1; } else { y = 1; } if x > 1 { assert true; } else { x = 2; } }", 4, "y",
			[]int{0, 1, 2, 3, 4}, "proc f(x: int, y: int) { if x > 0 { x = 1; } else { y = 1; } if x > 1 { assert true; } else { } }"},
		{"proc f(x: int, y: int) { if x > 0 { x = 1; } else { y = 1; } assert true; }", 3, "x", []int{0, 1, 3}, "proc f(x: int, y: int) { if x > 0 { x = 1; } else { } assert true; }"},
		{"proc f(x: int, y: int) { if x > 0 { x = 1; } else { y = 1; } assert true; }", 3, "y", []int{0, 2, 3}, "proc f(x: int, y: int) { if x > 0 { } else { y = 1; } assert true; }"},
		// An if behind an else goes, or stays with all ifs around it.
		{"proc f(x: int, y: int) { if x > 0 { y = 1; } else if x > 1 { x = 1; } assert true; }", 4, "y", []int{0, 1, 4}, "proc f(x: int, y: int) { if x > 0 { y = 1; } assert true; }"},
		{"proc f(x: int, y: int) { if x > 0 { y = 1; } else if x > 1 { x = 1; } assert true; }", 4, "x", []int{0, 2, 3, 4}, "proc f(x: int, y: int) { if x > 0 { } else if x > 1 { x = 1; } assert true; }"},
		{"proc f(x: int, y: int) { if y > 0 { y = 1; } else if y > 1 { } else if x > 1 { x = 1; } else { y = 2; } assert true; }", 6, "x",
			[]int{0, 2, 3, 4, 6}, "proc f(x: int, y: int) { if y > 0 { } else if y > 1 { } else if x > 1 { x = 1; } else { } assert true; }"},
		{"proc f(x: int, y: int) { if y > 0 { y = 1; x = 1; } else if y > 1 { x = 2; } else { x = 3; } assert true; }", 6, "y", []int{0, 1, 6}, "proc f(x: int, y: int) { if y > 0 { y = 1; } assert true; }"},
		// A block can become empty.
		{"proc f(x: int) { while x > 0 { var y = 1; } x = 1; }", 2, "x", []int{2}, "proc f(x: int) { x = 1; }"},
		{"proc f(x: int) { while x > 0 { var y = 1; return; } }", 0, "x", []int{0, 2}, "proc f(x: int) { while x > 0 { return; } }"},
		{"proc f(x: int) { for i = 1 to x { x = 1; } x = 2; }", 0, "i", []int{0}, "proc f(x: int) { for i = 1 to x { } }"},
		{"proc f(x: int) { for i = 1 to x { x = 1; } x = 2; }", 0, "x", []int{0}, "proc f(x: int) { for i = 1 to x { } }"},
		{"proc f(x: int) { for i = 1 to x { x = i; } x = x + 2; }", 2, "x", []int{0, 1, 2}, "proc f(x: int) { for i = 1 to x { x = i; } x = x + 2; }"},
		{"proc f(x: int) { while true { for i = 1 to x { x = i; } } }", 1, "x", []int{0, 1, 2}, "proc f(x: int) { while true { for i = 1 to x { x = i; } } }"},
		// The variable is that of a for, or of a block beside the statement.
		{"proc f(x: int) { for i = 1 to x { x = 1; } for j = 1 to 2 { x = 2; } assert true; }", 4, "i", []int{0, 4}, "proc f(x: int) { for i = 1 to x { } assert true; }"},
		{"proc f(x: int) { for i = 1 to x { x = 1; } for j = 1 to 2 { x = 2; } assert true; }", 4, "j", []int{2, 4}, "proc f(x: int) { for j = 1 to 2 { } assert true; }"},
		{"proc f(x: int) { if x > 0 { var y = 1; var z = y; x = z; } assert true; }", 4, "z", []int{0, 1, 2, 4}, "proc f(x: int) { if x > 0 { var y: int = 1; var z: int = y; } assert true; }"},
		// A call defines its var arguments, and uses all of them.
		{"proc g(var p, q) { p = q; } proc f(x: int, y: int, z: int) { y = 1; z = 2; x = 3; g(x, y); assert true; }", 4, "x",
			[]int{0, 2, 3, 4}, "proc g(var p: int, q: int) { p = q; } proc f(x: int, y: int, z: int) { y = 1; x = 3; g(x, y); assert true; }"},
		{"proc g(var p, q) { p = q; } proc f(x: int, y: int, z: int) { y = 1; z = 2; x = 3; g(x, y); assert true; }", 4, "y",
			[]int{0, 4}, "proc g(var p: int, q: int) { p = q; } proc f(x: int, y: int, z: int) { y = 1; assert true; }"},
		// What defines a variable that is only declared for it.
		{"proc g(var p: int, var q: int) { p = 1; q = 1; } proc f() { var a = 1; var b = a; b = a; a = b; g(a, b); assert true; }", 5, "a",
			[]int{0, 1, 2, 3, 4, 5}, "proc g(var p: int, var q: int) { p = 1; q = 1; } proc f() { var a: int = 1; var b: int = a; b = a; a = b; g(a, b); assert true; }"},
		// The statement is in a loop that brings its variable.
		{"proc f(x: int) { while x > 0 { assert true; var y = x; x = x - 1; } }", 1, "y", []int{0, 1, 2, 3}, "proc f(x: int) { while x > 0 { assert true; var y: int = x; x = x - 1; } }"},
		{"proc f(x: int) { while x > 0 { assert true; var y = 1; x = x - 1; } }", 1, "x", []int{0, 1, 3}, "proc f(x: int) { while x > 0 { assert true; x = x - 1; } }"},
		// The statement declares the variable.
		{"proc f(x: int) { x = 1; var y = x; y = 2; }", 1, "y", []int{0, 1}, "proc f(x: int) { x = 1; var y: int = x; }"},
		{"proc f(x: int) { var y = 1; return; }", 1, "x", []int{1}, "proc f(x: int) { return; }"},
		// Names that are free again in another block.
		{"proc f(c: bool) { if c { var x = 1; x = 2; } else { var x = 3; x = 4; } assert true; }", 5, "x", []int{0, 1, 2, 5}, "proc f(c: bool) { if c { var x: int = 1; x = 2; } else { } assert true; }"},
	} {
		p := checked(t, x.s)
		procedure := len(p.Procedures) - 1
		all := statements(p.Tree)
		variable := named(p.Procedures[procedure].Variables, x.variable)
		var want []int
		for _, i := range x.kept {
			want = append(want, all[i])
		}
		if l, e := slicing.Kept(p, procedure, all[x.statement], variable); !slices.Equal(l, want) || e != api.OK {
			t.Error(x.s, l, want, e)
		}
		n, number, index, e := slicing.Slice(p, procedure, all[x.statement], variable)
		if got := text(t, n); got != x.slice || e != api.OK {
			t.Errorf("%s\n%s instead of\n%s %v", x.s, got, x.slice, e)
			continue
		}
		cut, _, _ := checker.Tree(n)
		if variables := cut.Procedures[procedure].Variables; index != named(variables, x.variable) {
			t.Error(x.s, index)
		}
		if left := statements(n); number != left[slices.Index(x.kept, x.statement)] {
			t.Error(x.s, number)
		}
		if !reflect.DeepEqual(n, tree.Bare(n)) {
			t.Error(x.s, "has places", n)
		}
	}
}

// The second variable x is that of the other block.
func TestVariablesWithOneName(t *testing.T) {
	p := checked(t, "proc f(c: bool) { if c { var x = 1; x = 2; } else { var x = 3; x = 4; } assert true; }")
	n, number, index, e := slicing.Slice(p, 0, statements(p.Tree)[5], 2)
	if s := text(t, n); s != "proc f(c: bool) { if c { } else { var x: int = 3; x = 4; } assert true; }" || index != 1 || number != statements(n)[3] || e != api.OK {
		t.Error(s, number, index, e)
	}
}

func TestSliceOfOneProcedure(t *testing.T) {
	s := "proc a(x) { var y = x; x = 1; assert x > 0; } record r { a: int } proc b(x) { var y = x; x = 1; assert x > 0; } proc c(x) { var y = x; x = 1; }"
	p := checked(t, s)
	full := "proc N(x: int) { var y: int = x; x = 1; assert x > 0; }"
	short := "proc N(x: int) { x = 1; assert x > 0; }"
	rest := "proc c(x: int) { var y: int = x; x = 1; }"
	name := func(s, name string) string { return strings.Replace(s, "N", name, 1) }
	for i, want := range []string{
		name(short, "a") + " record r { a: int } " + name(full, "b") + " " + rest,
		name(full, "a") + " record r { a: int } " + name(short, "b") + " " + rest,
	} {
		node := p.Procedures[i].Node
		var asserts []int
		for k := node; k < p.Procedures[i+1].Node; k++ {
			path, _ := tree.Path(p.Tree, k)
			if x, _ := tree.Get(p.Tree, path...); x.Kind == api.NodeAssert {
				asserts = append(asserts, k)
			}
		}
		n, number, index, e := slicing.Slice(p, i, asserts[0], 0)
		path, _ := tree.Path(n, number)
		at, _ := tree.Get(n, path...)
		if got := text(t, n); got != want || at.Kind != api.NodeAssert || index != 0 || e != api.OK {
			t.Errorf("%s\n%s instead of\n%s %d %d %v", s, got, want, number, index, e)
		}
	}
}

func TestErrors(t *testing.T) {
	p := checked(t, "proc f(x: int) { var y = x; if y > 0 { y = 2; } } proc g() { return; }")
	inF, inG := map[int]bool{7: true, 10: true, 15: true}, map[int]bool{}
	for i := range tree.Count(p.Tree) {
		path, _ := tree.Path(p.Tree, i)
		if n, _ := tree.Get(p.Tree, path...); n.Kind == api.NodeReturn {
			inG[i] = true
		}
	}
	for _, procedure := range []int{math.MinInt, -1, 0, 1, 2, math.MaxInt} {
		for _, node := range append([]int{math.MinInt, math.MaxInt, -2, -1}, seq(tree.Count(p.Tree)+2)...) {
			for _, variable := range []int{math.MinInt, -1, 0, 1, 2, math.MaxInt} {
				want := api.OK
				switch {
				case procedure != 0 && procedure != 1:
					want = api.ErrRange
				case procedure == 0 && !inF[node] || procedure == 1 && !inG[node]:
					want = api.ErrNotFound
				case procedure == 1 || variable != 0 && variable != 1:
					want = api.ErrArg
				}
				if l, e := slicing.Kept(p, procedure, node, variable); e != want || (len(l) > 0) != (want == api.OK) {
					t.Error(procedure, node, variable, l, e, want)
				}
				n, number, index, e := slicing.Slice(p, procedure, node, variable)
				if e != want || e != api.OK && (!reflect.DeepEqual(n, api.Node{}) || number != 0 || index != 0) {
					t.Error(procedure, node, variable, n, number, index, e, want)
				}
			}
		}
	}
	if _, e := slicing.Kept(api.Program{}, 0, 0, 0); e != api.ErrRange {
		t.Error(e)
	}
}

// seq returns the numbers from 0 to n - 1.
func seq(n int) []int {
	var l []int
	for i := range n {
		l = append(l, i)
	}
	return l
}

func TestManyStatements(t *testing.T) {
	s := "proc f(x:int,y:int){" + strings.Repeat("x=x;", 335) + "y=x;assert y>0;}"
	p := checked(t, s)
	all := statements(p.Tree)
	last := all[len(all)-1]
	if l, e := slicing.Kept(p, 0, last, 1); !slices.Equal(l, all) || e != api.OK {
		t.Error(len(l), e)
	}
	n, number, index, e := slicing.Slice(p, 0, all[0], 1)
	if got := text(t, n); got != "proc f(x: int, y: int) { x = x; }" || number != 9 || index != 1 || e != api.OK {
		t.Error(got, number, index, e)
	}
}

// Arguments are not modified, and results are newly allocated.

func TestResultsAreNew(t *testing.T) {
	s := "proc f(x) { var s = 0; var t = 1; while x > 0 { s = s + x; t = t * x; x = x - 1; } assert s > 0; assert t > 0; }"
	p, again := checked(t, s), checked(t, s)
	all := statements(p.Tree)
	n, _, _, _ := slicing.Slice(p, 0, all[6], 1)
	typed := slicing.Typed(p)
	spoil(&n)
	spoil(&typed)
	l, _ := slicing.Kept(p, 0, all[6], 1)
	clear(l)
	n, _, _, _ = slicing.Slice(p, 0, all[6], 1)
	want, _, _, _ := slicing.Slice(again, 0, all[6], 1)
	if !reflect.DeepEqual(p, again) || !reflect.DeepEqual(n, want) {
		t.Error(p.Tree, n)
	}
}

// spoil changes all nodes of a tree, and what is behind them in memory.
func spoil(n *api.Node) {
	n.Text, n.Kind = "spoilt", -1
	_ = append(n.Kids, api.Node{Kind: -2})
	for i := range n.Kids {
		spoil(&n.Kids[i])
	}
}
