package symbolic_test

import (
	"math"
	"slices"
	"strings"
	"testing"

	"assessor/api"
	"assessor/bitvec"
	"assessor/blast"
	"assessor/checker"
	"assessor/cnf"
	"assessor/interpreter"
	"assessor/simplify"
	"assessor/solver"
	"assessor/symbolic"
	"assessor/tree"
	"assessor/types"
	"assessor/value"
)

// program returns the checked program with a text.
func program(t *testing.T, s string) api.Program {
	t.Helper()
	p, wrong, e := checker.Check(s)
	if len(wrong) > 0 || e != api.OK {
		t.Fatalf("%q: %v %v", s, wrong, e)
	}
	return p
}

func table(t *testing.T, width int) *bitvec.Table {
	t.Helper()
	b, e := bitvec.New(width)
	if e != api.OK {
		t.Fatal(width, e)
	}
	return b
}

// add makes a node.
func add(t *testing.T, b *bitvec.Table, op, value int, args ...int) int {
	t.Helper()
	x := api.Term{Op: op, Value: value}
	copy(x.Args[:], args)
	i, e := b.Make(x)
	if e != api.OK {
		t.Fatal(x, e)
	}
	return i
}

func inputs(t *testing.T, b *bitvec.Table, p api.Program, entry string) []int {
	t.Helper()
	l, e := symbolic.Inputs(b, p, entry)
	if e != api.OK {
		t.Fatal(entry, e)
	}
	return l
}

// constants makes the constants of an input.
func constants(t *testing.T, b *bitvec.Table, sorts, input []int) []int {
	t.Helper()
	var l []int
	for i, n := range input {
		l = append(l, add(t, b, []int{api.SortInt: api.OpNumber, api.SortBool: api.OpTruth}[sorts[i]], n))
	}
	return l
}

// all returns the values of nodes.
func all(t *testing.T, b *bitvec.Table, nodes, input []int) []int {
	t.Helper()
	var l []int
	for _, i := range nodes {
		n, e := b.Eval(i, input)
		if e != api.OK {
			t.Fatal(i, input, e)
		}
		l = append(l, n)
	}
	return l
}

// outcome returns what an outcome on terms is for inputs of the table.
func outcome(t *testing.T, b *bitvec.Table, s api.Symbolic, input []int) api.Outcome {
	t.Helper()
	conditions := all(t, b, s.Fault, input)
	sorted := slices.Sorted(slices.Values(conditions))
	if !slices.Equal(sorted, []int{0, 0, 0, 0, 0, 1}) {
		t.Fatal(s, input, conditions)
	}
	o := api.Outcome{Fault: slices.Index(conditions, 1)}
	if o.Fault == api.FaultNone {
		o.Out = all(t, b, s.Out, input)
	}
	return o
}

// taken returns the index of the path that is taken for inputs of the table, and its outcome.
func taken(t *testing.T, b *bitvec.Table, l []api.Path, input []int) (int, api.Outcome) {
	t.Helper()
	found := -1
	for i, x := range l {
		n, e := b.Eval(x.Condition, input)
		if e != api.OK || n == 1 && found >= 0 {
			t.Fatal(l, input, e)
		}
		if n == 1 {
			found = i
		}
	}
	if found < 0 {
		t.Fatal(l, input)
	}
	return found, api.Outcome{Fault: l[found].Fault, Out: all(t, b, l[found].Out, input)}
}

func same(a, b api.Outcome) bool { return a.Fault == b.Fault && slices.Equal(a.Out, b.Out) }

// hasSorts reports whether nodes have some sorts.
func hasSorts(b *bitvec.Table, nodes, sorts []int) bool {
	return slices.EqualFunc(nodes, sorts, func(i, sort int) bool {
		s, ok := b.Sort(i)
		return ok && s == sort
	})
}

// sortsOf returns the sorts of the scalars of types.
func sortsOf(p api.Program, l ...api.Type) []int {
	var sorts []int
	for _, t := range types.Scalars(p.Records, l...) {
		sorts = append(sorts, map[int]int{api.TypeInt: api.SortInt, api.TypeBool: api.SortBool}[t.Kind])
	}
	return sorts
}

// signature returns the sorts of what a procedure gets, and of what it returns.
func signature(p api.Program, x api.Procedure) (parameters, results []int) {
	for _, v := range x.Variables[:x.Parameters] {
		parameters = append(parameters, sortsOf(p, v.Type)...)
		if v.Var {
			results = append(results, sortsOf(p, v.Type)...)
		}
	}
	if x.Result.Kind != api.TypeNone {
		results = sortsOf(p, x.Result)
	}
	return parameters, results
}

// P29.1

func TestSortsAndInputs(t *testing.T) {
	const number, truth = api.SortInt, api.SortBool
	for _, x := range []struct {
		parameters string
		want       []int
	}{
		{"", nil}, {"x: int", []int{number}}, {"p: bool", []int{truth}}, {"x, p", []int{number, truth}}, {"var p, var x", []int{truth, number}}, {"p: bool, x: int, y: int, q: bool", []int{truth, number, number, truth}},
		{"a: int[3]", []int{number, number, number}}, {"a: int[1], p: bool, b: int[2]", []int{number, truth, number, number}}, {"v: r", []int{number, truth, truth}}, {"p: bool, v: r, a: int[2], w: s", []int{truth, number, truth, truth, number, number, truth}},
		{"a: int[8], b: int[8], c: int[8]", make([]int, 24)}, {"a: int[8], b: int[8], c: int[7], p: bool", append(make([]int, 23), truth)},
	} {
		s := "record r { n: int, u: bool, w: bool } record s { z: bool } proc g() {} proc f(" + x.parameters + ") { "
		if strings.Contains(x.parameters, "x, p") || strings.Contains(x.parameters, "var p") {
			s += "x = x + 1; p = not p; "
		}
		p := program(t, s+"}")
		l, e := symbolic.Sorts(p, "f")
		if !slices.Equal(l, x.want) || e != api.OK {
			t.Error(x.parameters, l, e)
		}
		for width := api.MinWidth; width <= api.MaxWidth; width++ {
			b := table(t, width)
			add(t, b, api.OpTruth, 1)
			l, e = symbolic.Inputs(b, p, "f")
			if len(l) != len(x.want) || e != api.OK || b.Len() != 1+len(x.want) {
				t.Fatal(x.parameters, l, e)
			}
			for i, n := range l {
				want := api.Term{Op: []int{number: api.OpInput, truth: api.OpFlag}[x.want[i]], Value: i}
				if node, ok := b.Node(n); node != want || !ok {
					t.Error(x.parameters, i, node)
				}
			}
			if again, e := symbolic.Inputs(b, p, "f"); !slices.Equal(again, l) || e != api.OK || b.Len() != 1+len(x.want) {
				t.Error(x.parameters, again, e)
			}
		}
	}
}

func TestErrorsOfSortsAndInputs(t *testing.T) {
	p := program(t, "record r { n: int, u: bool } proc f(a: int[8], b: int[8], c: int[8], p: bool) {} proc g(a: int[8], b: int[8], c: int[7], v: r) {} proc h(x: int, p: bool) {}")
	for _, x := range []struct {
		entry string
		e     api.Errno
	}{{"f", api.ErrTooLarge}, {"g", api.ErrTooLarge}, {"", api.ErrNotFound}, {"F", api.ErrNotFound}, {"f ", api.ErrNotFound}, {"r", api.ErrNotFound}, {"x", api.ErrNotFound}, {"ff", api.ErrNotFound}} {
		b := table(t, 4)
		l, e := symbolic.Sorts(p, x.entry)
		m, f := symbolic.Inputs(b, p, x.entry)
		if len(l)+len(m) > 0 || e != x.e || f != x.e {
			t.Error(x.entry, l, e, m, f)
		}
	}
	if l, e := symbolic.Sorts(api.Program{}, ""); len(l) > 0 || e != api.ErrNotFound {
		t.Error(l, e)
	}
	b := filled(t, 4, api.MaxTerms-1)
	if l, e := symbolic.Inputs(b, p, "h"); len(l) > 0 || e != api.ErrTooLarge {
		t.Error(l, e)
	}
	b = filled(t, 4, api.MaxTerms-2)
	if l, e := symbolic.Inputs(b, p, "h"); !slices.Equal(l, []int{api.MaxTerms - 2, api.MaxTerms - 1}) || e != api.OK {
		t.Error(l, e)
	}
	if l, e := symbolic.Inputs(b, p, "h"); len(l) != 2 || e != api.OK {
		t.Error(l, e)
	}
}

// filled returns a table with some number of nodes.
func filled(t *testing.T, width, count int) *bitvec.Table {
	t.Helper()
	b := table(t, width)
	last := add(t, b, api.OpInput, 23)
	for b.Len() < count {
		last = add(t, b, api.OpMul, 0, last, last)
	}
	return b
}

// P29.2

func TestExample(t *testing.T) {
	p := program(t, "proc f(x: int): int { if x < 0 { return -x; } return 6 / x; }")
	b := table(t, 4)
	x := inputs(t, b, p, "f")
	s, e := symbolic.Run(b, p, "f", api.Bounds{Width: 4}, x)
	if e != api.OK || len(s.Fault) != 6 || len(s.Out) != 1 {
		t.Fatal(s, e)
	}
	l, e := symbolic.Paths(b, p, "f", api.Bounds{Width: 4}, x, 3)
	if e != api.OK || len(l) != 3 {
		t.Fatal(l, e)
	}
	for n := -8; n < 8; n++ {
		want := api.Outcome{Fault: api.FaultDivide}
		path := 1
		switch {
		case n < 0:
			path, want = 0, api.Outcome{Out: []int{bitvec.Wrap(4, -n)}}
		case n > 0:
			path, want = 2, api.Outcome{Out: []int{6 / n}}
		}
		if o := outcome(t, b, s, []int{n}); !same(o, want) {
			t.Error(n, o)
		}
		if i, o := taken(t, b, l, []int{n}); i != path || !same(o, want) {
			t.Error(n, i, o)
		}
	}
	if l[1].Out != nil {
		t.Error(l)
	}
}

// sources returns programs with a procedure f, which together have all kinds of nodes and ends.
func sources() []string {
	const records = "record r { n: int, u: bool } "
	return []string{
		"proc f() {}", "proc f(): int { return 3; }", "proc f(): int {}", "proc f() { assert false; }", "proc f(): bool { assert true; return true; }",
		"proc f(x: int, y: int): int { return x + y * x - y; }", "proc f(x: int): int { return -x; }", "proc f(x: int, y: int): int { return x / y; }", "proc f(x: int, y: int): int { return x % y; }", "proc f(x: int): int { return 999999999 + 12 * x; }",
		"proc f(x: int, y: int): bool { return x < y; }", "proc f(x: int, y: int): bool { return x <= y; }", "proc f(x: int, y: int): bool { return x > y; }", "proc f(x: int, y: int): bool { return x >= y; }", "proc f(x: int, y: int): bool { return x == y; }", "proc f(x: int, y: int): bool { return x != y; }",
		"proc f(p: bool, q: bool): bool { return p == q; }", "proc f(p: bool, q: bool): bool { return p != q; }", "proc f(p: bool, q: bool): bool { return not p and q or p; }", "proc f(p: bool, x: int): bool { return p and 1 / x > 0; }", "proc f(p: bool, x: int): bool { return p or 1 / x > 0; }", "proc f(x: int, y: int): bool { return (1 / x > 0 and 1 / y > 0) or x % y == 0; }", "proc f(x: int, y: int): bool { return true and x < y or false; }", "proc f(x: int): bool { return false and 1 / x == 0 or true or 1 / x == 0; }",
		// The order of faults.
		"proc f(x: int, a: int[2]): int { return a[x] + 1 / x; }", "proc f(x: int, a: int[2]): int { return 1 / x + a[x]; }", "proc f(x: int, var a: int[2]) { a[x] = 1 / (x - 2); }", "proc f(x: int, var a: int[2]) { a[1 / (x - 2)] = a[x]; }", "proc f(x: int, y: int): int { return 1 / x / (1 % y); }", "proc f(x: int, y: int): int { return g(1 / x, h(y)); } proc g(x: int, y: int): int { assert false; return x + y; } proc h(x: int): int { if x < 0 {return x;} }",
		// Arrays and records.
		"proc f(a: int[3], x: int): int { return a[x]; }", "proc f(var a: int[3], x: int, y: int) { a[x] = y; }", "proc f(var a: int[2], x: int) { a[x] = a[a[x]]; a[0] = len(a); }", "proc f(x: int): int { var a = [1, 0, x, x, 2, 1, x, x]; a[2] = 1; return a[x] + len(a); }", "proc f(x: int): int[2] { var a = [x, x + 1]; a[1] = a[0]; return a; }", "proc f(x: int): int { var a = [x]; return a[x]; }",
		records + "proc f(v: r): int { if v.u { return v.n; } return 0; }", records + "proc f(var v: r, x: int) { v.n = x; v.u = x < v.n or v.u; var w = v; v = r(w.n + 1, not w.u); }", records + "proc f(x: int): r { return r(x, x == 1); }", records + "proc f(p: bool, x: int): r { var v = r(x, p); var w = r(0, false); if p { w = v; } else { w.u = true; } return w; }",
		// Branches.
		"proc f(x: int): int { var y = 0; if x < 0 { y = 1; } else if x == 0 { y = 2; } else if x == 1 { return 5; } else { y = 3; } return y; }", "proc f(p: bool, q: bool): int { var n = 0; if p { n = n + 1; } if q { n = n + 2; } if p and q { return n; } }", "proc f(p: bool, var x: int) { if p { return; } x = x + 1; if x == 0 { return; } x = 2 * x; }", "proc f(p: bool, x: int): int { if p { var y = x; x = y + 1; } else { var z = true; if z { x = 7; } } return x; }", "proc f(p: bool, x: int): int { if p { assert x != 0; return 6 / x; } else { assert x != 1; } return 3 / (x - 1); }",
		"proc f(p: bool, q: bool): bool { var l = p; if q { l = not p; } if l { return true; } else { return q; } }", "proc f(x: int): int { if x < 0 { if x < 0 { return 1; } else { return 2; } } if not (x < 0) { return 3; } }",
		// Loops.
		"proc f(x: int): int { var s = 0; for i = 1 to x { s = s + i; } return s; }", "proc f(x: int, y: int): int { var s = 0; for i = x to y { s = s + i * i; if s == 1 { return i; } } return s; }", "proc f(x: int): int { var s = 0; for i = x to 999 { s = s + 1; } return s; }", "proc f(x: int): int { var s = 0; for i = 0 - 2 to x { for j = i to x { s = s + j; } } return s; }", "proc f(x: int): int { for i = 1 / x to 2 / (x - 1) { assert i != x; } return x; }", "proc f(x: int): int { for i = 1 to 0 { x = 0; } for i = 1 to 1 { x = x + i; } return x; }",
		"proc f(x: int): int { while x > 0 { x = x - 1; } return x; }", "proc f(x: int): int { while 6 / x > 1 { x = x + 1; } return x; }", "proc f(x: int, p: bool): int { while p { x = x + 1; if x == 0 { return 5; } p = x < 0; } return x; }", "proc f(p: bool) { while p {} }", "proc f(var x: int) { while true { x = x + 1; if x > 0 { return; } } }", "proc f(a: int[3]): int { var n = 0; while n < len(a) and a[n] != 0 { n = n + 1; } return n; }",
		// Procedures.
		"proc f(x: int): int { return g(x) + g(x + 1) * g(2); } proc g(x: int): int { if x < 0 { return -x; } return x; }", "proc f(var x: int, var y: int) { swap(x, y); } proc swap(var x: int, var y: int) { var z = x; x = y; y = z; }", "proc f(var x: int, p: bool) { g(x, p); if p { g(x, not p); } } proc g(var x: int, p: bool) { if p { x = x + 1; return; } x = 2 * x; }", "proc f(var x: int, var a: int[2], p: bool) { g(a, x); if p { var y = a[0]; g(a, y); } } proc g(var a: int[2], x: int) { a[x] = x; a = [a[1], a[0]]; }", "proc f(x: int, p: bool): int { if p and g(x) { return h(x); } return 0; } proc g(x: int): bool { return 6 / x > h(x); } proc h(x: int): int { for i = 0 to x { if i == 1 { return x; } } }", "proc f(x: int): int { g(x); return x; } proc g(x: int) { x = x / 0; }", "proc f(x: int): int { g(x); return x; } proc g(x: int) { if x > 0 { h(); } } proc h() { assert false; }",
	}
}

// domain returns all inputs with some sorts; small ints if there are many.
func domain(sorts []int, width int) [][]int {
	var low, high []int
	for _, sort := range sorts {
		switch {
		case sort == api.SortBool:
			low, high = append(low, 0), append(high, 1)
		case len(sorts) > 3:
			low, high = append(low, -1), append(high, 1)
		default:
			low, high = append(low, value.Least(width)), append(high, value.Greatest(width))
		}
	}
	var l [][]int
	for input, ok := low, true; ok; input, ok = value.Next(low, high, input) {
		l = append(l, slices.Clone(input))
	}
	return l
}

// P29.2, P29.3, P29.4

func TestAllInputs(t *testing.T) {
	found := map[int]int{}
	for _, s := range sources() {
		p := program(t, s)
		i, _ := checker.Find(p, "f")
		sorts, results := signature(p, p.Procedures[i])
		for _, b := range []api.Bounds{{Width: 2, Loops: 8}, {Width: 3, Loops: 0}, {Width: 3, Loops: 1}, {Width: 3, Loops: 3}, {Width: 4, Loops: 8}} {
			terms := table(t, b.Width)
			in := inputs(t, terms, p, "f")
			run, e := symbolic.Run(terms, p, "f", b, in)
			if e != api.OK || len(run.Fault) != 6 || !hasSorts(terms, run.Fault, slices.Repeat([]int{api.SortBool}, 6)) || !hasSorts(terms, run.Out, results) {
				t.Fatal(s, b, run, e)
			}
			paths, e := symbolic.Paths(terms, p, "f", b, in, api.MaxList)
			if e != api.OK {
				t.Fatal(s, b, e)
			}
			for _, x := range paths {
				n, ok := simplify.Constant(terms, x.Condition)
				isRight := x.Fault == api.FaultNone && hasSorts(terms, x.Out, results) || x.Fault != api.FaultNone && len(x.Out) == 0
				if ok && n == 0 || !hasSorts(terms, []int{x.Condition}, []int{api.SortBool}) || !isRight {
					t.Fatal(s, b, paths)
				}
			}
			for _, input := range domain(sorts, b.Width) {
				want, _, e := interpreter.Run(p, "f", b, input)
				if e != api.OK {
					t.Fatal(s, b, input, e)
				}
				found[want.Fault]++
				if o := outcome(t, terms, run, input); !same(o, want) {
					t.Fatal(s, b, input, o, want)
				}
				if _, o := taken(t, terms, paths, input); !same(o, want) {
					t.Fatal(s, b, input, o, want)
				}
			}
		}
	}
	for fault := api.FaultNone; fault <= api.FaultLimit; fault++ {
		if found[fault] < 100 {
			t.Error(fault, found)
		}
	}
}

func TestConstantInputs(t *testing.T) {
	for _, s := range sources() {
		p := program(t, s)
		i, _ := checker.Find(p, "f")
		sorts, _ := signature(p, p.Procedures[i])
		b := api.Bounds{Width: 3, Loops: 3}
		terms := table(t, b.Width)
		for _, input := range domain(sorts, b.Width) {
			in := constants(t, terms, sorts, input)
			want, _, _ := interpreter.Run(p, "f", b, input)
			run, e := symbolic.Run(terms, p, "f", b, in)
			if e != api.OK || !same(outcome(t, terms, run, nil), want) {
				t.Fatal(s, input, run, e)
			}
			paths, e := symbolic.Paths(terms, p, "f", b, in, 1)
			if e != api.OK || len(paths) != 1 {
				t.Fatal(s, input, paths, e)
			}
			if _, o := taken(t, terms, paths, nil); !same(o, want) {
				t.Fatal(s, input, o, want)
			}
			nodes := append(slices.Clone(run.Fault), paths[0].Condition)
			if want.Fault == api.FaultNone {
				nodes = slices.Concat(nodes, run.Out, paths[0].Out)
			}
			for _, i := range nodes {
				if _, ok := simplify.Constant(terms, i); !ok {
					t.Fatal(s, input, run, paths)
				}
			}
		}
		// Nothing but constants is ever made.
		for i := range terms.Len() {
			if _, ok := simplify.Constant(terms, i); !ok {
				t.Fatal(s, i)
			}
		}
	}
}

func TestNodesThatAreNoInputs(t *testing.T) {
	p := program(t, "proc f(x: int, y: int, p: bool): int { if p { return x / y; } return x - y; }")
	b := table(t, 4)
	x, q := add(t, b, api.OpInput, 7), add(t, b, api.OpFlag, 2)
	three := add(t, b, api.OpNumber, 3)
	sum := add(t, b, api.OpAdd, 0, x, three)
	notQ := add(t, b, api.OpNot, 0, q)
	less := add(t, b, api.OpLess, 0, x, three)
	bounds := api.Bounds{Width: 4}
	for _, in := range [][]int{{x, x, q}, {x, sum, notQ}, {three, x, less}, {sum, three, q}, {x, three, add(t, b, api.OpNot, 0, notQ)}, {sum, sum, add(t, b, api.OpAnd, 0, q, notQ)}, {three, three, less}} {
		kept := slices.Clone(in)
		run, e := symbolic.Run(b, p, "f", bounds, in)
		paths, f := symbolic.Paths(b, p, "f", bounds, in, 10)
		if e != api.OK || f != api.OK || !slices.Equal(in, kept) {
			t.Fatal(in, e, f)
		}
		for n := -8; n < 8; n++ {
			for m := range 2 {
				input := []int{0, 0, m, 0, 0, 0, 0, n}
				want, _, _ := interpreter.Run(p, "f", bounds, all(t, b, in, input))
				if o := outcome(t, b, run, input); !same(o, want) {
					t.Error(in, input, o, want)
				}
				if _, o := taken(t, b, paths, input); !same(o, want) {
					t.Error(in, input, o, want)
				}
			}
		}
	}
}

func TestHiddenVariablesAreNotMerged(t *testing.T) {
	for _, s := range []string{"proc f(p: bool, x: int): int { if p { var y = x * x; var q = x < y; var a = [y, x]; } return x; }", "proc f(p: bool, x: int): int { for i = 0 to x { var y = i * i; } return x; }", "proc f(p: bool, x: int): int { if p { for i = 1 to 2 { var y = i + x; } } else { var z = x + 7; } return x; }"} {
		p := program(t, s)
		b := table(t, 4)
		if _, e := symbolic.Run(b, p, "f", api.Bounds{Width: 4, Loops: 3}, inputs(t, b, p, "f")); e != api.OK {
			t.Fatal(s, e)
		}
		for i := range b.Len() {
			if x, _ := b.Node(i); x.Op == api.OpChoose {
				t.Error(s, x)
			}
		}
	}
}

func TestErrors(t *testing.T) {
	p := program(t, "proc f(x: int, p: bool) { while p { while p { while p { while p { x = x + 1; } } } } } proc g() {}")
	b := table(t, 4)
	x, q := add(t, b, api.OpInput, 0), add(t, b, api.OpFlag, 1)
	var none bitvec.Table
	for i, c := range []struct {
		b     *bitvec.Table
		entry string
		at    api.Bounds
		input []int
		most  int
		e     api.Errno
	}{
		{b, "f", api.Bounds{Width: 4, Loops: 1}, []int{x, q}, 100, api.OK}, {b, "g", api.Bounds{Width: 4, Loops: 8}, nil, 1, api.OK}, {b, "g", api.Bounds{Width: 4}, []int{}, api.MaxList, api.OK},
		{b, "f", api.Bounds{Width: 1}, []int{x, q}, 100, api.ErrArg}, {b, "f", api.Bounds{Width: 9}, []int{x, q}, 100, api.ErrArg}, {b, "f", api.Bounds{Width: 3}, []int{x, q}, 100, api.ErrArg}, {b, "f", api.Bounds{Width: 5}, []int{x, q}, 100, api.ErrArg}, {b, "f", api.Bounds{}, []int{x, q}, 100, api.ErrArg}, {b, "f", api.Bounds{Width: 4, Loops: -1}, []int{x, q}, 100, api.ErrArg}, {b, "f", api.Bounds{Width: 4, Loops: 9}, []int{x, q}, 100, api.ErrArg}, {b, "f", api.Bounds{Width: math.MinInt, Loops: math.MaxInt}, []int{x, q}, 100, api.ErrArg}, {&none, "f", api.Bounds{}, []int{x, q}, 100, api.ErrArg}, {&none, "f", api.Bounds{Width: 4}, []int{x, q}, 100, api.ErrArg},
		{b, "h", api.Bounds{Width: 3}, nil, 0, api.ErrArg}, {b, "h", api.Bounds{Width: 4}, nil, 0, api.ErrNotFound}, {b, "", api.Bounds{Width: 4}, []int{x, q}, 100, api.ErrNotFound}, {b, "x", api.Bounds{Width: 4}, []int{x, q}, 100, api.ErrNotFound}, {b, "F", api.Bounds{Width: 4, Loops: 8}, []int{x, q}, 100, api.ErrNotFound},
		{b, "f", api.Bounds{Width: 4, Loops: 8}, nil, 0, api.ErrTooLarge}, {b, "f", api.Bounds{Width: 4, Loops: 8}, []int{x, q}, 100, api.ErrTooLarge},
		{b, "f", api.Bounds{Width: 4}, nil, 0, api.ErrType}, {b, "f", api.Bounds{Width: 4}, []int{x}, 0, api.ErrType}, {b, "f", api.Bounds{Width: 4}, []int{x, q, x}, 100, api.ErrType}, {b, "f", api.Bounds{Width: 4}, []int{x, x}, 100, api.ErrType}, {b, "f", api.Bounds{Width: 4}, []int{q, q}, 100, api.ErrType}, {b, "f", api.Bounds{Width: 4}, []int{q, x}, 100, api.ErrType}, {b, "f", api.Bounds{Width: 4}, []int{-1, q}, 100, api.ErrType}, {b, "f", api.Bounds{Width: 4}, []int{x, math.MaxInt}, 100, api.ErrType}, {b, "f", api.Bounds{Width: 4}, []int{math.MinInt, q}, 100, api.ErrType}, {b, "f", api.Bounds{Width: 4}, []int{x, 1 << 15}, 100, api.ErrType}, {b, "g", api.Bounds{Width: 4}, []int{x}, 100, api.ErrType},
	} {
		s, e := symbolic.Run(c.b, p, c.entry, c.at, c.input)
		l, f := symbolic.Paths(c.b, p, c.entry, c.at, c.input, c.most)
		if e != c.e || f != c.e || (len(s.Fault) > 0) != (c.e == api.OK) || (len(l) > 0) != (c.e == api.OK) || c.e != api.OK && len(s.Out) > 0 {
			t.Error(i, s, e, l, f)
		}
	}
	for _, most := range []int{0, -1, api.MaxList + 1, math.MinInt, math.MaxInt} {
		if l, e := symbolic.Paths(b, p, "g", api.Bounds{Width: 4}, nil, most); len(l) > 0 || e != api.ErrArg {
			t.Error(most, l, e)
		}
	}
}

// large returns a program whose terms grow with the number of its statements.
func large(statements int) string {
	return "proc f(x: int, y: int): int { " + strings.Repeat("x = x * y + x; ", statements) + "return x; }"
}

func TestTooManyNodes(t *testing.T) {
	p := program(t, large(100))
	bounds := api.Bounds{Width: 8}
	for _, x := range []struct {
		before int
		e      api.Errno
	}{{1000, api.OK}, {api.MaxTerms - 220, api.OK}, {api.MaxTerms - 200, api.ErrTooLarge}, {api.MaxTerms - 2, api.ErrTooLarge}} {
		b := filled(t, 8, x.before)
		in := inputs(t, b, p, "f")
		s, e := symbolic.Run(b, p, "f", bounds, in)
		if e != x.e || e != api.OK && len(s.Fault)+len(s.Out) > 0 {
			t.Error(x.before, s, e)
		}
		b = filled(t, 8, x.before)
		in = inputs(t, b, p, "f")
		if l, e := symbolic.Paths(b, p, "f", bounds, in, 10); e != x.e || e != api.OK && len(l) > 0 {
			t.Error(x.before, l, e)
		}
	}
	p = program(t, "proc f(x: int, y: int): int { for i = 0 to 7 { for j = 0 to 7 { for k = 0 to 7 { x = x * y + x / y - x % y; x = x * x - y * x; x = x + y; x = x / y * (x - y) * (x - y) * (x + y); } } } return x; }")
	b := table(t, 8)
	in := inputs(t, b, p, "f")
	if s, e := symbolic.Run(b, p, "f", api.Bounds{Width: 8, Loops: 8}, in); e != api.ErrTooLarge || len(s.Fault)+len(s.Out) > 0 {
		t.Error(s, e)
	}
	// A table that is full suffices for what is there already.
	p = program(t, "proc f(x: int): int { return x; }")
	b = filled(t, 8, api.MaxTerms-2)
	in = []int{add(t, b, api.OpInput, 23)}
	add(t, b, api.OpTruth, 0)
	add(t, b, api.OpTruth, 1)
	if s, e := symbolic.Run(b, p, "f", bounds, in); e != api.OK || !slices.Equal(s.Out, in) {
		t.Error(s, e)
	}
	b = filled(t, 8, api.MaxTerms)
	if s, e := symbolic.Run(b, p, "f", bounds, in); e != api.ErrTooLarge || len(s.Fault)+len(s.Out) > 0 {
		t.Error(s, e)
	}
	if l, e := symbolic.Paths(b, p, "f", bounds, in, 1); e != api.ErrTooLarge || len(l) > 0 {
		t.Error(l, e)
	}
}

// heavy returns programs that need many nodes.
func heavy() []string {
	var sums, all []string
	for _, leaf := range []string{"x", "(x+1)", "(x-1)", "(x+x)"} {
		sums = append(sums, strings.Repeat("a[", 118)+leaf+strings.Repeat("]", 118))
	}
	for _, c := range "xyz" {
		all = append(all, strings.Repeat("6/(6/(", 40)+string(c)+strings.Repeat("))", 40))
	}
	tests := "a[x] < 1"
	for range 20 {
		tests = "a[x] / y < 1 and (p or a[y] < x % y or (" + tests + "))"
	}
	return []string{
		"proc f(a: int[8], x: int): int { return " + strings.Join(sums, "+") + "; }",
		"proc f(x: int, y: int, z: int): int { return " + strings.Join(all, "%") + "; }",
		"proc f(a: int[8], x: int, y: int, p: bool): bool { return " + tests + "; }",
		"proc f(var a: int[8], var b: int[8], var c: int[8], var d: int[8], x: int) { if x < 0 { a = b; } if x < 1 { b = c; } if x < 2 { c = d; } if x < 3 { d = a; } if x < 4 { a = c; } if x < 5 { b = d; } }",
		"proc f(var a: int[8], x: int) { a[x] = x; a[x + 1] = a[x]; a[a[x]] = x; a[a[a[x]]] = a[x]; a[a[x] + x] = 1; }",
		"proc f(a: int[8], x: int): int { while 0 < a[a[a[a[a[a[a[a[x]]]]]]]] { x = x + 1; } return x; }",
		"proc f(a: int[8], x: int): int { for i = a[x] to a[a[x]] { if a[i] == x { return i; } a[i] = a[a[i]]; } }",
		"proc f(var a: int[8], var b: int[8], x: int) { for i = x to 8 { g(a, b, i); } } proc g(var a: int[8], var b: int[8], x: int) { if a[x] < b[x] { a = b; } b[x] = x; }",
	}
}

func TestEnoughNodes(t *testing.T) {
	ran := map[int]bool{}
	for i, s := range heavy() {
		p := program(t, s)
		procedure, _ := checker.Find(p, "f")
		for _, width := range []int{2, 4, 8} {
			for loops := range api.MaxLoops + 1 {
				cost, _ := checker.Cost(p, procedure, loops)
				if cost*tree.Count(p.Tree) > 1000 {
					continue
				}
				ran[i] = true
				b := filled(t, width, 960)
				sorts, _ := signature(p, p.Procedures[procedure])
				var in []int
				for i, sort := range sorts {
					// There are not always as many inputs as scalars.
					in = append(in, add(t, b, []int{api.SortInt: api.OpInput, api.SortBool: api.OpFlag}[sort], i%24))
				}
				if s, e := symbolic.Run(b, p, "f", api.Bounds{Width: width, Loops: loops}, in); e != api.OK || len(s.Fault) != 6 {
					t.Error(i, width, loops, e)
				}
				b = filled(t, width, 960)
				in = constants(t, b, sorts, make([]int, len(sorts)))
				if l, e := symbolic.Paths(b, p, "f", api.Bounds{Width: width, Loops: loops}, in, 1); e != api.OK || len(l) != 1 {
					t.Error(i, width, loops, e)
				}
			}
		}
	}
	if len(ran) != len(heavy()) {
		t.Error(ran)
	}
}

// P29.3

func TestNumberOfPaths(t *testing.T) {
	for _, x := range []struct {
		s     string
		loops int
		want  int
	}{
		{"proc f() {}", 0, 1}, {"proc f(x: int): int { return x * x - 1; }", 0, 1}, {"proc f(x: int, y: int): bool { return x < y; }", 0, 1}, {"proc f(p: bool): bool { return not p; }", 0, 1}, {"proc f(x: int, a: int[2]): int { a[1] = x; return a[0] + a[1]; }", 0, 1},
		{"proc f(p: bool): int { if p { return 1; } return 0; }", 0, 2}, {"proc f(p: bool) { assert p; }", 0, 2}, {"proc f(x: int): int { return 1 / x; }", 0, 2}, {"proc f(x: int): int { return x % 3 + x / 2; }", 0, 1}, {"proc f(x: int, a: int[2]): int { return a[x]; }", 0, 2}, {"proc f(x: int, var a: int[2]) { a[x] = x; }", 0, 2},
		{"proc f(p: bool, q: bool): bool { return p and q; }", 0, 2}, {"proc f(p: bool, q: bool): bool { return p or q; }", 0, 2}, {"proc f(p: bool, q: bool): int { if p and q { return 1; } return 0; }", 0, 3}, {"proc f(p: bool, q: bool): int { if p or q { return 1; } return 0; }", 0, 3}, {"proc f(p: bool, x: int): bool { return p and 1 / x > 0; }", 0, 3},
		{"proc f(p: bool, q: bool) { if p {} if q {} }", 0, 4}, {"proc f(p: bool, q: bool) { if p {} else if q {} }", 0, 3}, {"proc f(p: bool, q: bool) { if p { if q {} } }", 0, 3}, {"proc f(x: int) { if x < 0 {} else if x < 1 {} else if x < 2 {} }", 0, 4},
		// What is known on a path does not divide it again.
		{"proc f(p: bool) { if p {} if p {} if not p {} assert p or not p; }", 0, 2}, {"proc f(p: bool, q: bool) { if p {} if q {} if p {} if q {} }", 0, 4}, {"proc f(p: bool, q: bool) { assert p; assert q; assert p; }", 0, 3}, {"proc f(x: int): int { return 1 / x + 2 / x + 3 % x; }", 0, 2}, {"proc f(x: int, a: int[3]): int { a[x] = a[x] + 1; return a[x]; }", 0, 2}, {"proc f(p: bool) { while p {} }", 5, 2},
		{"proc f(x: int) { for i = 0 to x {} }", 0, 2}, {"proc f(x: int) { for i = 0 to x {} }", 1, 3}, {"proc f(x: int) { for i = 0 to x {} }", 3, 5}, {"proc f(x: int) { for i = 0 to 2 { assert i < x; } }", 3, 4}, {"proc f(x: int) { while x > 0 { x = x - 1; } }", 2, 4},
		{"proc f(p: bool, q: bool) { g(p); g(q); } proc g(p: bool) { if p { return; } }", 0, 4}, {"proc f(p: bool, q: bool): int { return g(p) + g(q); } proc g(p: bool): int { if p { return 1; } return 0; }", 0, 4}, {"proc f(p: bool): int { return g(p) + g(p); } proc g(p: bool): int { if p { return 1; } return 0; }", 0, 2}, {"proc f(p: bool): int { if p { return 1; } }", 0, 2}, {"proc f(p: bool, q: bool): int { return g(p, q) + g(p, q); } proc g(p: bool, q: bool): int { if p { if q { return 1; } } return 0; }", 0, 3}, {"proc f(p: bool, q: bool) { g(p, q); assert p; g(q, p); assert q; } proc g(p: bool, q: bool) { if not p { assert q; } }", 0, 4},
	} {
		p := program(t, x.s)
		b := table(t, 4)
		in := inputs(t, b, p, "f")
		bounds := api.Bounds{Width: 4, Loops: x.loops}
		for _, most := range []int{x.want, x.want + 1, api.MaxList} {
			if l, e := symbolic.Paths(b, p, "f", bounds, in, most); e != api.OK || len(l) != x.want {
				t.Error(x.s, most, len(l), e)
			}
		}
		if x.want > 1 {
			if l, e := symbolic.Paths(b, p, "f", bounds, in, x.want-1); e != api.ErrTooLarge || len(l) > 0 {
				t.Error(x.s, len(l), e)
			}
		}
	}
}

func TestPathsOfConditionsThatAreNoInputs(t *testing.T) {
	p := program(t, "proc f(p: bool, q: bool, r: bool): int { if p { if q { if r { return 1; } return 2; } } if r { return 3; } return 4; }")
	b := table(t, 4)
	x, y := add(t, b, api.OpFlag, 0), add(t, b, api.OpFlag, 1)
	both := add(t, b, api.OpAnd, 0, x, y)
	// Where both of the first conditions have the value 1, the third one is the same as the condition of the path, or its negation.
	for _, third := range []int{both, add(t, b, api.OpNot, 0, both)} {
		l, e := symbolic.Paths(b, p, "f", api.Bounds{Width: 4}, []int{x, y, third}, 5)
		if e != api.OK || len(l) != 5 {
			t.Fatal(l, e)
		}
		for _, path := range l {
			if n, ok := simplify.Constant(b, path.Condition); ok && n == 0 {
				t.Error(l)
			}
		}
		for k := range 4 {
			input := []int{k & 1, k >> 1}
			want, _, _ := interpreter.Run(p, "f", api.Bounds{Width: 4}, all(t, b, []int{x, y, third}, input))
			if _, o := taken(t, b, l, input); !same(o, want) {
				t.Error(input, o, want)
			}
		}
	}
}

func TestManyPaths(t *testing.T) {
	s := "record r { b0: bool, b1: bool, b2: bool, b3: bool } proc f(v: r, w: r, p: bool, q: bool): int { var n = 0; "
	for i, c := range strings.Fields("v.b0 v.b1 v.b2 v.b3 w.b0 w.b1 w.b2 w.b3 p q") {
		s += "if " + c + " { n = n + " + []string{"1", "2", "4", "8", "16", "32", "64", "128", "3", "5"}[i] + "; } "
	}
	p := program(t, s+"return n; }")
	b := table(t, 8)
	in := inputs(t, b, p, "f")
	l, e := symbolic.Paths(b, p, "f", api.Bounds{Width: 8}, in, api.MaxList)
	if e != api.OK || len(l) != 1024 {
		t.Fatal(len(l), e)
	}
	used := map[int]bool{}
	for k := 0; k < 1024; k += 31 {
		var input []int
		for i := range 10 {
			input = append(input, k>>i&1)
		}
		want, _, _ := interpreter.Run(p, "f", api.Bounds{Width: 8}, input)
		i, o := taken(t, b, l, input)
		if used[i] || !same(o, want) {
			t.Fatal(input, i, o, want)
		}
		used[i] = true
	}
	if l, e := symbolic.Paths(b, p, "f", api.Bounds{Width: 8}, in, 1023); e != api.ErrTooLarge || len(l) > 0 {
		t.Error(len(l), e)
	}
}

func TestResultsAreNew(t *testing.T) {
	p := program(t, "proc f(x: int, p: bool): int[2] { if p { return [x, x]; } return [x, x + 1]; }")
	b := table(t, 4)
	in := inputs(t, b, p, "f")
	first, _ := symbolic.Run(b, p, "f", api.Bounds{Width: 4}, in)
	kept := slices.Concat(first.Fault, first.Out)
	paths, _ := symbolic.Paths(b, p, "f", api.Bounds{Width: 4}, in, 2)
	sorts, _ := symbolic.Sorts(p, "f")
	for _, l := range [][]int{first.Fault, first.Out, paths[0].Out, in, sorts} {
		for i := range l {
			l[i] = 99
		}
		_ = append(l, 98)
	}
	if o := paths[1].Out; len(o) != 2 || slices.Contains(o, 99) {
		t.Error(paths)
	}
	again, e := symbolic.Run(b, p, "f", api.Bounds{Width: 4}, inputs(t, b, p, "f"))
	if !slices.Equal(slices.Concat(again.Fault, again.Out), kept) || e != api.OK {
		t.Error(again, kept)
	}
}

// P29.4

func TestWhatIsKnownOfAllInputs(t *testing.T) {
	for _, x := range []struct {
		s       string
		canFail bool
	}{
		{"proc f(x: int, y: int) { assert x + y == y + x; }", false}, {"proc f(x: int, y: int) { assert x * (y + 1) == x * y + x; }", false}, {"proc f(x: int, y: int) { assert x - y < 0 or x >= y; }", true}, {"proc f(x: int, y: int) { assert x * x >= 0; y = x; }", true}, {"proc f(x: int, y: int) { if y != 0 { assert x / y * y + x % y == x; } }", false}, {"proc f(x: int, y: int) { var s = 0; for i = 1 to x { s = s + i; } if y == x { assert 2 * s == x * (x + 1) or x < 0; } }", false}, {"proc f(x: int, y: int) { var s = 0; for i = 1 to x { s = s + i; } assert s >= y; }", true},
	} {
		p := program(t, x.s)
		b := table(t, 4)
		bounds := api.Bounds{Width: 4, Loops: 8}
		in := inputs(t, b, p, "f")
		s, e := symbolic.Run(b, p, "f", bounds, in)
		g, words, f := blast.Blast(b, []int{api.SortInt, api.SortInt}, s.Fault[api.FaultAssert])
		if e != api.OK || f != api.OK {
			t.Fatal(x.s, e, f)
		}
		formula, _ := cnf.Translate(g, words[0]...)
		a, e := solver.Solve(formula, nil, api.MaxConflicts)
		if e != api.OK || (a.Kind == api.AnswerModel) != x.canFail || (a.Kind == api.AnswerProof) == x.canFail {
			t.Fatal(x.s, a.Kind, e)
		}
		if !x.canFail {
			continue
		}
		var input []int
		for _, l := range [][]int{a.Model[1:5], a.Model[5:9]} {
			var bits []bool
			for _, literal := range l {
				bits = append(bits, literal > 0)
			}
			input = append(input, blast.Value(api.SortInt, bits))
		}
		if o, _, _ := interpreter.Run(p, "f", bounds, input); o.Fault != api.FaultAssert {
			t.Error(x.s, input, o)
		}
	}
}
