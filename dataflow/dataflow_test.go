package dataflow_test

import (
	"math"
	"reflect"
	"slices"
	"strings"
	"testing"

	"assessor/api"
	"assessor/checker"
	"assessor/dataflow"
	"assessor/flow"
	"assessor/tree"
)

// checked returns a program with a text.
func checked(t *testing.T, s string) api.Program {
	t.Helper()
	p, l, e := checker.Check(s)
	if len(l) > 0 || e != api.OK {
		t.Fatal(s, l, e)
	}
	return p
}

// to is a list of numbers.
func to(l ...int) []int { return l }

// edges returns a flow with points that lead to others.
func edges(l ...[]int) api.Flow {
	f := api.Flow{}
	for _, next := range l {
		f.Points = append(f.Points, api.Point{Kind: api.PointPlain, Next: next})
	}
	return f
}

// same reports whether two lists of lists are equal.
func same(a, b [][]int) bool { return slices.EqualFunc(a, b, slices.Equal[[]int]) }

// sameAccess reports whether two accesses are equal.
func sameAccess(a, b api.Access) bool {
	return slices.Equal(a.Uses, b.Uses) && slices.Equal(a.Defines, b.Defines) && a.Whole == b.Whole
}

// access returns an access with uses and definitions.
func access(uses, defines []int, whole bool) api.Access {
	return api.Access{Uses: uses, Defines: defines, Whole: whole}
}

// P19.1

const declarations = "record r { n: int, b: bool } proc id(x: int, y: int): int { return x + y; } " +
	"proc set(var p: int, q: int, var l: int[2]) { p = q; } proc nothing() { } "

func TestAccessesOfStatements(t *testing.T) {
	none := access(nil, nil, false)
	for _, x := range []struct {
		body string
		want []api.Access
	}{
		{"", nil},
		// The variables are a (0), b (1), l (2), q (3), c (4), and then those of the body.
		{"var y = 1;", []api.Access{access(nil, to(5), true)}},
		{"var y = b + a * b;", []api.Access{access(to(0, 1), to(5), true)}},
		{"var y: int[2] = [b, -a];", []api.Access{access(to(0, 1), to(5), true)}},
		{"var y = r(b, not c);", []api.Access{access(to(1, 4), to(5), true)}},
		{"var y = l[b];", []api.Access{access(to(1, 2), to(5), true)}},
		{"var y = len(l);", []api.Access{access(to(2), to(5), true)}},
		{"var y = q.n;", []api.Access{access(to(3), to(5), true)}},
		{"var y = q;", []api.Access{access(to(3), to(5), true)}},
		{"var y = id(id(b, a), l[len(l)]);", []api.Access{access(to(0, 1, 2), to(5), true)}},
		{"var y = 1; var z = y;", []api.Access{access(nil, to(5), true), access(to(5), to(6), true)}},
		{"if c { var y = 1; } else { var y = a; y = b; }", []api.Access{access(to(4), nil, false), access(nil, to(5), true), access(to(0), to(6), true), access(to(1), to(6), true)}},
		{"a = 1;", []api.Access{access(nil, to(0), true)}},
		{"a = a + b;", []api.Access{access(to(0, 1), to(0), true)}},
		{"l = [a, b];", []api.Access{access(to(0, 1), to(2), true)}},
		{"l = l;", []api.Access{access(to(2), to(2), true)}},
		{"q = r(1, c);", []api.Access{access(to(4), to(3), true)}},
		{"l[0] = 1;", []api.Access{access(to(2), to(2), false)}},
		{"l[b] = a;", []api.Access{access(to(0, 1, 2), to(2), false)}},
		{"l[l[1]] = l[0];", []api.Access{access(to(2), to(2), false)}},
		{"l[a + len(l)] = id(b, a);", []api.Access{access(to(0, 1, 2), to(2), false)}},
		{"q.n = 1;", []api.Access{access(to(3), to(3), false)}},
		{"q.b = c and a > q.n;", []api.Access{access(to(0, 3, 4), to(3), false)}},
		{"nothing();", []api.Access{none}},
		{"set(b, 1, l);", []api.Access{access(to(1, 2), to(1, 2), true)}},
		{"set(b, b + a, l);", []api.Access{access(to(0, 1, 2), to(1, 2), true)}},
		{"var y = [1, 2]; set(b, len(l), y);", []api.Access{access(nil, to(5), true), access(to(1, 2, 5), to(1, 5), true)}},
		// The argument that comes first has the greater index.
		{"var y = 1; set(y, a, l);", []api.Access{access(nil, to(5), true), access(to(0, 2, 5), to(2, 5), true)}},
		{"own(a);", []api.Access{access(to(0), nil, false)}},
		{"assert c;", []api.Access{access(to(4), nil, false)}},
		{"assert true;", []api.Access{none}},
		{"assert b < a or c;", []api.Access{access(to(0, 1, 4), nil, false)}},
		{"return;", []api.Access{none}},
		{"if c { }", []api.Access{access(to(4), nil, false)}},
		{"if a > 0 { a = b; } else if c { b = 1; }", []api.Access{access(to(0), nil, false), access(to(1), to(0), true), access(to(4), nil, false), access(nil, to(1), true)}},
		{"if true { a = b; }", []api.Access{none, access(to(1), to(0), true)}},
		{"while l[a] > b { b = 1; }", []api.Access{access(to(0, 1, 2), nil, false), access(nil, to(1), true)}},
		{"for i = 1 to 3 { }", []api.Access{access(nil, to(5), true), access(to(5), to(5), false)}},
		{"for i = b to a * b { a = i; }", []api.Access{access(to(0, 1), to(5), true), access(to(5), to(5), false), access(to(5), to(0), true)}},
		{"for i = 0 to b { for j = i to a { } }", []api.Access{access(to(1), to(5), true), access(to(5), to(5), false), access(to(0, 5), to(6), true), access(to(6), to(6), false)}},
	} {
		s := declarations + "proc own(x: int) { } proc f(a: int, var b: int, var l: int[2], q: r, c: bool) { " + x.body + " }"
		want := slices.Insert(x.want, 0, access(nil, to(0, 1, 2, 3, 4), true), access(to(1, 2), nil, false))
		if l, e := dataflow.Accesses(checked(t, s), 4); !slices.EqualFunc(l, want, sameAccess) || e != api.OK {
			t.Error(x.body, l, e)
		}
	}
}

func TestAccessesOfProcedures(t *testing.T) {
	p := checked(t, declarations+"proc f(): int { return 1; }")
	for i, want := range [][]api.Access{
		{access(nil, to(0, 1), true), access(nil, nil, false), access(to(0, 1), nil, false)},
		{access(nil, to(0, 1, 2), true), access(to(0, 2), nil, false), access(to(1), to(0), true)},
		{access(nil, nil, false), access(nil, nil, false)},
		{access(nil, nil, false), access(nil, nil, false), access(nil, nil, false)},
	} {
		if l, e := dataflow.Accesses(p, i); !slices.EqualFunc(l, want, sameAccess) || e != api.OK {
			t.Error(i, l, e)
		}
	}
}

func TestProceduresThatAreNot(t *testing.T) {
	p := checked(t, "proc f(x: int) { x = 1; } record r { a: int } proc g() { }")
	for _, x := range []struct {
		p         api.Program
		procedure int
	}{{p, -1}, {p, 2}, {p, math.MinInt}, {p, math.MaxInt}, {api.Program{}, 0}, {api.Program{}, -1}} {
		if l, e := dataflow.Accesses(x.p, x.procedure); len(l) > 0 || e != api.ErrRange {
			t.Error(x.procedure, l, e)
		}
		if l, e := dataflow.Definitions(x.p, x.procedure); len(l) > 0 || e != api.ErrRange {
			t.Error(x.procedure, l, e)
		}
		if l, e := dataflow.Reaching(x.p, x.procedure); len(l) > 0 || e != api.ErrRange {
			t.Error(x.procedure, l, e)
		}
		if l, e := dataflow.Live(x.p, x.procedure); len(l) > 0 || e != api.ErrRange {
			t.Error(x.procedure, l, e)
		}
	}
}

// P19.2

func TestSolve(t *testing.T) {
	last := api.MaxNodes - 1
	for i, x := range []struct {
		f             api.Flow
		forward       bool
		gen, kill     [][]int
		front, behind [][]int
	}{
		{edges(nil, nil), true, [][]int{nil, nil}, [][]int{nil, nil}, [][]int{nil, nil}, [][]int{nil, nil}},
		{edges(to(1), nil), true, [][]int{to(3), to(4)}, [][]int{nil, nil}, [][]int{nil, to(3)}, [][]int{to(3), to(3, 4)}},
		{edges(to(1), nil), false, [][]int{to(3), to(4)}, [][]int{nil, nil}, [][]int{to(3, 4), to(4)}, [][]int{to(4), nil}},
		// What is made at a point is behind it even if it is lost there, too.
		{edges(to(2), nil, to(1)), true, [][]int{to(0, 1, 2), nil, to(1)}, [][]int{nil, to(0), to(0, 1)}, [][]int{nil, to(1, 2), to(0, 1, 2)}, [][]int{to(0, 1, 2), to(1, 2), to(1, 2)}},
		{edges(to(2), nil, to(1)), false, [][]int{nil, to(0, 1, 2), to(1)}, [][]int{to(0), nil, to(0, 1)}, [][]int{to(1, 2), to(0, 1, 2), to(1, 2)}, [][]int{to(1, 2), nil, to(0, 1, 2)}},
		// A loop, and the union behind a branch.
		{edges(to(2), nil, to(3, 1), to(2)), true, [][]int{to(1), nil, nil, to(2)}, [][]int{nil, nil, nil, to(1)}, [][]int{nil, to(1, 2), to(1, 2), to(1, 2)}, [][]int{to(1), to(1, 2), to(1, 2), to(2)}},
		{edges(to(2), nil, to(3, 1), to(2)), false, [][]int{nil, to(5), nil, to(2)}, [][]int{nil, nil, to(5), to(2)}, [][]int{to(2), to(5), to(2), to(2)}, [][]int{to(2), nil, to(2, 5), to(2)}},
		{edges(to(2, 3), nil, to(1), to(1)), true, [][]int{to(0), nil, to(1), to(2)}, [][]int{nil, nil, nil, to(0)}, [][]int{nil, to(0, 1, 2), to(0), to(0)}, [][]int{to(0), to(0, 1, 2), to(0, 1), to(2)}},
		// Nothing of a set comes from nowhere: the least sets.
		{edges(to(1), nil, to(3), to(2)), true, [][]int{to(0), nil, nil, nil}, [][]int{nil, nil, nil, nil}, [][]int{nil, to(0), nil, nil}, [][]int{to(0), to(0), nil, nil}},
		{edges(to(2), nil, to(2)), true, [][]int{to(7), nil, nil}, [][]int{nil, nil, nil}, [][]int{nil, nil, to(7)}, [][]int{to(7), nil, to(7)}},
		{edges(to(2), nil, to(2)), false, [][]int{nil, to(7), nil}, [][]int{nil, nil, nil}, [][]int{nil, to(7), nil}, [][]int{nil, nil, nil}},
		// Points that cannot be reached have sets, too.
		{edges(to(1), nil, to(1)), true, [][]int{nil, nil, to(6)}, [][]int{nil, nil, nil}, [][]int{nil, to(6), nil}, [][]int{nil, to(6), to(6)}},
		// The same edge twice; a point that leads to itself; the greatest numbers.
		{edges(to(2, 2), nil, to(2, 2, 1, 1)), true, [][]int{to(0, last), nil, to(63, 64)}, [][]int{nil, nil, to(0, 63)}, [][]int{nil, to(63, 64, last), to(0, 63, 64, last)}, [][]int{to(0, last), to(63, 64, last), to(63, 64, last)}},
		{edges(to(2, 2), nil, to(2, 2, 1, 1)), false, [][]int{nil, to(0, last), to(63, 64)}, [][]int{to(64), nil, to(0, 63)}, [][]int{to(63, last), to(0, last), to(63, 64, last)}, [][]int{to(63, 64, last), nil, to(0, 63, 64, last)}},
	} {
		front, behind, e := dataflow.Solve(x.f, x.forward, x.gen, x.kill)
		if !same(front, x.front) || !same(behind, x.behind) || e != api.OK {
			t.Error(i, front, behind, e)
		}
	}
}

func TestErrorsOfSolve(t *testing.T) {
	good := edges(to(1), nil)
	two := [][]int{nil, nil}
	for i, x := range []struct {
		f         api.Flow
		gen, kill [][]int
	}{
		{api.Flow{}, nil, nil}, {edges(nil), two[:1], two[:1]}, {edges(to(1), to(1)), two, two}, {edges(to(0), nil), two, two}, {edges(to(2), nil), two, two}, {edges(to(-1), nil), two, two},
		{edges(make([][]int, api.MaxNodes+1)...), make([][]int, api.MaxNodes+1), make([][]int, api.MaxNodes+1)},
		{good, nil, two}, {good, two, nil}, {good, two[:1], two}, {good, two, two[:1]}, {good, append(two, nil), two}, {good, two, append(two, nil)},
		{good, [][]int{to(-1), nil}, two}, {good, two, [][]int{nil, to(-1)}}, {good, [][]int{nil, to(api.MaxNodes)}, two}, {good, two, [][]int{to(api.MaxNodes), nil}},
		{good, [][]int{to(1, 1), nil}, two}, {good, two, [][]int{to(1, 1), nil}}, {good, [][]int{to(2, 1), nil}, two}, {good, two, [][]int{nil, to(0, 3, 2)}},
		{good, [][]int{to(math.MinInt), nil}, two}, {good, two, [][]int{to(0, math.MaxInt), nil}},
	} {
		for _, forward := range []bool{false, true} {
			if front, behind, e := dataflow.Solve(x.f, forward, x.gen, x.kill); len(front)+len(behind) > 0 || e != api.ErrArg {
				t.Error(i, front, behind, e)
			}
		}
	}
}

func TestSolveGreatestFlows(t *testing.T) {
	all, chain := make([][]int, api.MaxNodes), make([][]int, api.MaxNodes)
	numbers, kill := make([][]int, api.MaxNodes), make([][]int, api.MaxNodes)
	for i := range api.MaxNodes {
		numbers[i] = to(i)
		for k := 1; k < api.MaxNodes && i != 1; k++ {
			all[i] = append(all[i], k)
		}
		if i > 1 {
			chain[i] = to(i - 1)
		}
	}
	chain[0] = to(api.MaxNodes - 1)
	front, behind, e := dataflow.Solve(edges(all...), true, numbers, kill)
	// From the exit nothing comes back.
	for i := 1; i < api.MaxNodes; i++ {
		if len(front[i]) != api.MaxNodes-1 || len(behind[i]) != api.MaxNodes-min(1, i-1) || len(front[0]) != 0 || len(behind[0]) != 1 || e != api.OK {
			t.Fatal(i, len(front[i]), len(behind[i]), e)
		}
	}
	front, behind, e = dataflow.Solve(edges(chain...), true, numbers, kill)
	for i := 1; i < api.MaxNodes; i++ {
		if len(front[i]) != api.MaxNodes-i || len(behind[i]) != api.MaxNodes-i+1 || behind[i][1] != i || e != api.OK {
			t.Fatal(i, len(front[i]), len(behind[i]), e)
		}
	}
	front, behind, e = dataflow.Solve(edges(chain...), false, numbers, kill)
	for i := 1; i < api.MaxNodes; i++ {
		if len(front[i]) != i || len(behind[i]) != i-1 || e != api.OK {
			t.Fatal(i, len(front[i]), len(behind[i]), e)
		}
	}
}

// P19.3

// definition is a definition of a variable at a point.
func definition(point, variable int) api.Definition {
	return api.Definition{Point: point, Variable: variable}
}

func TestDefinitionsAndReachingAndLive(t *testing.T) {
	for _, x := range []struct {
		text           string
		definitions    []api.Definition
		reaching, live [][]int
	}{
		{"proc f() { }", nil, [][]int{nil, nil}, [][]int{nil, nil}},
		{"proc f(x: int, var y: int) { }", []api.Definition{definition(0, 0), definition(0, 1)}, [][]int{nil, to(0, 1)}, [][]int{nil, to(1)}},
		// The example of the chapter.
		{"proc f(var x: int) { var y = x; while y < 3 { y = y + x; } x = 1; }",
			[]api.Definition{definition(0, 0), definition(2, 1), definition(4, 1), definition(5, 0)},
			[][]int{nil, to(1, 2, 3), to(0), to(0, 1, 2), to(0, 1, 2), to(0, 1, 2)}, [][]int{nil, to(0), to(0), to(0, 1), to(0, 1), nil}},
		// An assignment to a part leaves the definitions before it; a whole one does not.
		{"proc f(var l: int[2], x: int) { l[x] = 1; l[0] = x; l = [1, 2]; }",
			[]api.Definition{definition(0, 0), definition(0, 1), definition(2, 0), definition(3, 0), definition(4, 0)},
			[][]int{nil, to(1, 4), to(0, 1), to(0, 1, 2), to(0, 1, 2, 3)}, [][]int{nil, to(0), to(0, 1), to(0, 1), nil}},
		// A variable is not live in front of a point that defines it wholly, unless it uses it.
		{"proc f(x: int): int { x = 1; x = x + 1; return x; }",
			[]api.Definition{definition(0, 0), definition(2, 0), definition(3, 0)},
			[][]int{nil, to(2), to(0), to(1), to(2)}, [][]int{nil, nil, nil, to(0), to(0)}},
		{"proc f(x: int): int { var y = 1; if x > 0 { y = 2; } else { x = y; } return x + y; }",
			[]api.Definition{definition(0, 0), definition(2, 1), definition(4, 1), definition(5, 0)},
			[][]int{nil, to(0, 1, 2, 3), to(0), to(0, 1), to(0, 1), to(0, 1), to(0, 1, 2, 3)}, [][]int{nil, nil, to(0), to(0, 1), to(0), to(1), to(0, 1)}},
		// The step of a for leaves the definition of its bound.
		{"proc f(x: int) { for i = x to 3 { x = i; } }",
			[]api.Definition{definition(0, 0), definition(2, 1), definition(3, 1), definition(4, 0)},
			[][]int{nil, to(0, 1, 2, 3), to(0), to(0, 1, 2, 3), to(0, 1, 2, 3)}, [][]int{nil, nil, to(0), to(1), to(1)}},
		{"proc g(var p: int, var q: int) { } proc f(x: int, var y: int) { g(y, x); x = y; }",
			[]api.Definition{definition(0, 0), definition(0, 1), definition(2, 0), definition(2, 1), definition(3, 0)},
			[][]int{nil, to(3, 4), to(0, 1), to(2, 3)}, [][]int{nil, to(1), to(0, 1), to(1)}},
		// Points that cannot be reached have definitions and live variables, too.
		{"proc f(x: int): int { return 1; x = 2; return x; }",
			[]api.Definition{definition(0, 0), definition(3, 0)},
			[][]int{nil, to(0, 1), to(0), nil, to(1)}, [][]int{nil, nil, nil, nil, to(0)}},
		// A definition reaches its own point around a loop.
		{"proc f(c: bool) { while c { var y = 1; c = y > 1; } }",
			[]api.Definition{definition(0, 0), definition(3, 1), definition(4, 0)},
			[][]int{nil, to(0, 1, 2), to(0, 1, 2), to(0, 1, 2), to(0, 1, 2)}, [][]int{nil, nil, to(0), nil, to(1)}},
	} {
		p := checked(t, x.text)
		procedure := len(p.Procedures) - 1
		if l, e := dataflow.Definitions(p, procedure); !slices.Equal(l, x.definitions) || e != api.OK {
			t.Error(x.text, l, e)
		}
		reaching, e := dataflow.Reaching(p, procedure)
		if !same(reaching, x.reaching) || e != api.OK {
			t.Error(x.text, reaching, e)
		}
		live, e := dataflow.Live(p, procedure)
		if !same(live, x.live) || e != api.OK {
			t.Error(x.text, live, e)
		}
	}
}

func TestLiveAtTheEntry(t *testing.T) {
	// All parameters are defined at the entry, and other variables are declared in front of their uses.
	for _, s := range []string{"proc f() { }", "proc f(x: int, y: int): int { return x; }", "proc f(x: int) { var y = x; for i = 1 to y { x = i; } }"} {
		if l, e := dataflow.Live(checked(t, s), 0); len(l[0]) > 0 || e != api.OK {
			t.Error(s, l, e)
		}
	}
}

func TestAccessesOfManyStatements(t *testing.T) {
	p := checked(t, "proc f(x:int){"+strings.Repeat("x=x;", 338)+"}")
	if tree.Count(p.Tree) > api.MaxNodes || tree.Count(p.Tree) < api.MaxNodes-3 {
		t.Fatal(tree.Count(p.Tree))
	}
	reaching, e := dataflow.Reaching(p, 0)
	live, _ := dataflow.Live(p, 0)
	for i := 2; i < len(reaching); i++ {
		if !slices.Equal(reaching[i], to(i-2)) || !slices.Equal(live[i], to(0)) || e != api.OK {
			t.Fatal(i, reaching[i], live[i], e)
		}
	}
	// Each of these variables stays as it is declared, and the last one is read.
	s := "proc f(){"
	for i := range api.MaxSlots {
		s += "var z" + string(rune('a'+i/26)) + string(rune('a'+i%26)) + "=1;"
	}
	p = checked(t, s+"assert zex>0;}")
	reaching, _ = dataflow.Reaching(p, 0)
	live, _ = dataflow.Live(p, 0)
	for i := 2; i < len(reaching); i++ {
		if len(reaching[i]) != i-2 || len(live[i]) != i/(len(reaching)-1) {
			t.Fatal(i, reaching[i], live[i])
		}
	}
}

// Arguments are not modified, and results are newly allocated.

func TestResultsAreNew(t *testing.T) {
	s := "proc g(var a: int, b: int) { } proc f(x: int, var y: int) { var l = [x, y]; while x < 3 { l[x] = y; g(x, y); x = x + y; } for i = 1 to x { y = i; } }"
	p, again := checked(t, s), checked(t, s)
	accesses, _ := dataflow.Accesses(p, 1)
	other, _ := dataflow.Accesses(p, 1)
	for _, a := range accesses {
		_ = append(a.Uses, 77)
		_ = append(a.Defines, 77)
	}
	if !reflect.DeepEqual(accesses, other) {
		t.Error(accesses, other)
	}
	for _, a := range accesses {
		for i := range a.Uses {
			a.Uses[i] = 66
		}
	}
	for i, a := range accesses {
		if !slices.Equal(a.Defines, other[i].Defines) {
			t.Error(a, other[i])
		}
	}
	for _, function := range []func(api.Program, int) ([][]int, api.Errno){dataflow.Reaching, dataflow.Live} {
		l, _ := function(p, 1)
		want, _ := function(again, 1)
		for i := range l {
			_ = append(l[i], 77)
		}
		if !same(l, want) {
			t.Error(l, want)
		}
		for i := range l {
			clear(l[i])
		}
	}
	if !reflect.DeepEqual(p, again) {
		t.Error(p)
	}
}

func TestSolveLeavesItsArguments(t *testing.T) {
	f, _ := flow.Of(checked(t, "proc f(x: int) { while x < 3 { x = x + 1; } }"), 0)
	g, _ := flow.Of(checked(t, "proc f(x: int) { while x < 3 { x = x + 1; } }"), 0)
	gen, kill := [][]int{to(0, 5), to(1), to(2, 3), to(4)}, [][]int{to(7), to(0), to(4), to(2, 5)}
	for _, forward := range []bool{false, true} {
		front, behind, _ := dataflow.Solve(f, forward, gen, kill)
		again, _, _ := dataflow.Solve(f, forward, gen, kill)
		for _, l := range slices.Concat(front, behind) {
			_ = append(l, 77)
		}
		if !same(front, again) {
			t.Error(front, again)
		}
		for _, l := range behind {
			clear(l)
		}
		if !same(front, again) {
			t.Error(front, again)
		}
		for _, l := range front {
			clear(l)
		}
	}
	if !reflect.DeepEqual(f, g) || !same(gen, [][]int{to(0, 5), to(1), to(2, 3), to(4)}) || !same(kill, [][]int{to(7), to(0), to(4), to(2, 5)}) {
		t.Error(f, gen, kill)
	}
}
