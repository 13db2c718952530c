package interpreter_test

import (
	"math"
	"reflect"
	"slices"
	"strconv"
	"strings"
	"testing"

	"assessor/api"
	"assessor/checker"
	"assessor/interpreter"
	"assessor/tree"
)

var bounds = api.Bounds{Width: 4, Loops: 3}

func checked(t *testing.T, s string) api.Program {
	t.Helper()
	p, l, e := checker.Check(s)
	if len(l) > 0 || e != api.OK {
		t.Fatal(s, l, e)
	}
	return p
}

func faultName(fault int) string {
	return []string{"none", "divide", "index", "assert", "return", "limit"}[fault]
}

// text returns the bytes of the node with a number.
func text(s string, p api.Program, number int) string {
	path, ok := tree.Path(p.Tree, number)
	if !ok {
		return strconv.Itoa(number)
	}
	n, _ := tree.Get(p.Tree, path...)
	return s[n.At:n.End]
}

// write returns scalars, or a fault and the bytes of its node.
func write(s string, p api.Program, out []int, fault, number int) string {
	if fault == api.FaultNone && number == -1 {
		var words []string
		for _, n := range out {
			words = append(words, strconv.Itoa(n))
		}
		return strings.Join(words, " ")
	}
	if len(out) > 0 {
		return "scalars and a fault"
	}
	return faultName(fault) + ": " + text(s, p, number)
}

// runs checks the outcome of the procedure f for an input.
func runs(t *testing.T, s, want string, b api.Bounds, input ...int) {
	t.Helper()
	p := checked(t, s)
	outcome, number, e := interpreter.Run(p, "f", b, input)
	if got := write(s, p, outcome.Out, outcome.Fault, number); got != want || e != api.OK {
		t.Errorf("%s\n%v: %s instead of %s, %v", s, input, got, want, e)
	}
}

const prelude = "record point { px: int, pb: bool } proc g(x: int): int { return 6 / x; } proc none(): bool { } proc pair(x: int): int[2] { return [x, x + 1]; } proc at(x: int): point { return point(x, x > 0); } "

// P12.1

func TestExpressions(t *testing.T) {
	for _, c := range [][3]string{
		{"int", "7", "7"}, {"int", "9", "-7"}, {"int", "999999999", "-1"}, {"int", "16", "0"}, {"int", "-8", "-8"}, {"bool", "true", "1"}, {"bool", "false", "0"},
		{"int", "x", "2"}, {"bool", "b", "1"}, {"int[3]", "a", "4 5 6"}, {"point", "p", "-3 0"}, {"int", "a[0]", "4"}, {"int", "a[x]", "6"}, {"int", "a[a[0] - 3]", "5"},
		{"int", "a[3]", "index: a[3]"}, {"int", "a[-1]", "index: a[-1]"}, {"int", "a[p.px]", "index: a[p.px]"}, {"int", "a[a[3]]", "index: a[3]"}, {"int", "a[1 / 0]", "divide: 1 / 0"},
		{"int", "p.px", "-3"}, {"bool", "p.pb", "0"}, {"int", "len(a)", "3"}, {"int", "len(w)", "-8"}, {"int[2]", "[x, -x]", "2 -2"}, {"point", "point(x + 1, not b)", "3 0"},
		{"int", "g(x)", "3"}, {"int", "g(0)", "divide: 6 / x"}, {"bool", "none()", "return: proc none(): bool { }"}, {"int[2]", "pair(7)", "7 -8"}, {"point", "at(g(x))", "3 1"}, {"int", "g(g(x))", "2"}, {"int", "g(a[3] / 0)", "index: a[3]"},
		{"int", "-x", "-2"}, {"int", "-(-8)", "-8"}, {"bool", "not b", "0"}, {"bool", "not not b", "1"}, {"int", "-(1 / 0)", "divide: 1 / 0"},
		{"int", "7 + 1", "-8"}, {"int", "x - a[2]", "-4"}, {"int", "a[0] * a[1]", "4"}, {"int", "-8 / -1", "-8"}, {"int", "-7 / x", "-3"}, {"int", "-7 % x", "-1"}, {"int", "x % 0", "divide: x % 0"}, {"int", "x / (b_int(b) - 1)", "divide: x / (b_int(b) - 1)"},
		{"bool", "x == 2", "1"}, {"bool", "b == p.pb", "0"}, {"bool", "b != p.pb", "1"}, {"bool", "x != 2", "0"}, {"bool", "x < 2", "0"}, {"bool", "x <= 2", "1"}, {"bool", "x > 1", "1"}, {"bool", "x >= 3", "0"},
		{"bool", "b and p.pb", "0"}, {"bool", "b and x == 2", "1"}, {"bool", "p.pb or b", "1"}, {"bool", "p.pb or x == 3", "0"},
		{"bool", "p.pb and 1 / 0 == 1", "0"}, {"bool", "b and 1 / 0 == 1", "divide: 1 / 0"}, {"bool", "b or 1 / 0 == 1", "1"}, {"bool", "p.pb or 1 / 0 == 1", "divide: 1 / 0"}, {"bool", "1 / 0 == 1 and p.pb", "divide: 1 / 0"}, {"bool", "p.pb and none() or b", "1"},
	} {
		s := prelude + "proc b_int(b: bool): int { if b { return 1; } return 0; } proc f(x: int, b: bool, a: int[3], p: point): " + c[0] + " { var w = [0, 0, 0, 0, 0, 0, 0, 0]; return " + c[1] + "; }"
		runs(t, s, c[2], bounds, 2, 1, 4, 5, 6, -3, 0)
	}
}

func TestTheOrderOfEvaluation(t *testing.T) {
	// In each of these the first fault is that of 1 / 0, the other one that of a[9].
	for _, statement := range []string{
		"x = 1 / 0 + a[9];", "x = 1 / 0 * a[9];", "b = 1 / 0 == a[9];", "b = 1 / 0 < a[9] and b;", "b = b and 1 / 0 < a[9];", "a = [0, 1 / 0, a[9]];", "p = point(1 / 0, a[9] == 1);", "x = h(1 / 0, a[9]);", "h2(1 / 0, a[9], x);",
		"a[1 / 0] = a[9];", "a[9] = 1 / 0;", "x = a[1 / 0] + a[9];", "for i = 1 / 0 to a[9] { }", "x = -(1 / 0) - a[9];", "if 1 / 0 == 1 { x = a[9]; }", "while 1 / 0 == 1 { x = a[9]; }", "var y = 1 / 0; x = a[9];", "p.px = 1 / 0; x = a[9];",
		"assert 1 / 0 == a[9];", "h2(x, 1 / 0, x); x = a[9];", "h3(1 / 0); x = a[9];", "p.px = 1 / 0 + a[9];", "return 1 / 0 + a[9];",
	} {
		s := "record point { px: int, pb: bool } proc h(x: int, y: int): int { return 1; } proc h2(x: int, y: int, var z: int) { } proc h3(x: int) { } proc f(x: int, b: bool, a: int[3], p: point)"
		if strings.HasPrefix(statement, "return") {
			s += ": int"
		}
		runs(t, s+" { "+statement+" }", "divide: 1 / 0", bounds, 1, 1, 1, 1, 1, 1, 1)
	}
	runs(t, "proc f(a: int[2]) { a[3] = a[0] / 1; }", "index: a[3]", bounds, 1, 2)
	runs(t, "proc f(a: int[2]) { a[a[1]] = a[5]; }", "index: a[5]", bounds, 1, 2)
}

func TestStatements(t *testing.T) {
	for _, c := range []struct {
		s, want string
		input   []int
	}{
		{"proc f(var x: int) { var y = x + 1; x = y * 2; }", "-8", []int{3}},
		{"proc f(var a: int[3], i: int) { a[i] = i + 5; }", "1 6 3", []int{1, 2, 3, 1}},
		{"proc f(var a: int[3], i: int) { a[i] = i; }", "index: a[i]", []int{1, 2, 3, 3}},
		{"proc f(var a: int[3], i: int) { a[i] = i; }", "index: a[i]", []int{1, 2, 3, -1}},
		{"proc f(var a: int[2]) { a = [a[1], a[0]]; }", "2 1", []int{1, 2}},
		{"proc f(var a: int[2], var b: int[2]) { var c = a; a = b; b = c; a[0] = 7; }", "7 4 1 2", []int{1, 2, 3, 4}},
		{"record r { k: int, m: bool, n: int } proc f(var p: r) { p.n = p.k; p.m = not p.m; }", "5 0 5", []int{5, 1, 2}},
		{"record r { k: int, m: bool } proc f(var p: r, var q: r) { p = q; q.k = 3; q.m = true; }", "2 0 3 1", []int{1, 1, 2, 0}},
		{"proc f(var x: int) { if x < 0 { x = 1; } else if x == 0 { x = 2; } else { x = 3; } }", "1", []int{-2}},
		{"proc f(var x: int) { if x < 0 { x = 1; } else if x == 0 { x = 2; } else { x = 3; } }", "2", []int{0}},
		{"proc f(var x: int) { if x < 0 { x = 1; } else if x == 0 { x = 2; } else { x = 3; } }", "3", []int{5}},
		{"proc f(var x: int) { if x < 0 { x = 1; } }", "4", []int{4}},
		{"proc f(var x: int) { if x < 0 { x = 1; } else if x > 5 { x = 2; } x = x + 1; }", "5", []int{4}},
		{"proc f(x: int): int { if x > 0 { return 1; } return 2; }", "1", []int{1}},
		{"proc f(x: int): int { if x > 0 { return 1; } else { return 3; } return 2; }", "3", []int{0}},
		{"proc f(x: int): int { if x > 0 { return 1; } }", "return: proc f(x: int): int { if x > 0 { return 1; } }", []int{0}},
		{"proc f(var x: int) { x = 1; return; x = 2; }", "1", []int{5}},
		{"proc f(var x: int) { while true { x = x + 1; return; } }", "6", []int{5}},
		{"proc f(var x: int) { for i = 0 to 2 { x = i; if i == 1 { return; } } x = 7; }", "1", []int{5}},
		{"proc f(x: int) { assert x > 0; }", "", []int{5}},
		{"proc f(x: int) { assert x > 0; }", "assert: assert x > 0;", []int{0}},
		{"proc f() { }", "", nil},
		{"proc f(x: int, var y: bool, z: int, var a: int[2]) { x = 3; y = z == x; }", "1 5 6", []int{1, 0, 3, 5, 6}},
		{"proc f(x: int): int { for i = 0 to 2 { var y: int = 0; y = y + x; x = y + 1; } return x; }", "4", []int{1}},
		{"proc f(x: int): int { while x < 3 { var y = x; x = y + 1; } for i = 1 to 1 { var y = 2; x = x * y; } return x; }", "6", []int{1}},
	} {
		runs(t, c.s, c.want, bounds, c.input...)
	}
}

func TestCallsAsStatements(t *testing.T) {
	swap := " proc swap(var a: int, var b: int) { var c = a; a = b; b = c; }"
	for _, c := range []struct {
		s, want string
		input   []int
	}{
		{"proc f(var x: int, var y: int) { swap(x, y); }" + swap, "2 1", []int{1, 2}},
		{"proc f(var x: int, var y: int) { swap(y, x); swap(x, y); }" + swap, "1 2", []int{1, 2}},
		{"proc f(var x: int) { g(x, x, x + 1); } proc g(var a: int, b: int, c: int) { a = 3 * b + c; b = 9; c = 9; }", "-7", []int{2}},
		{"proc f(var a: int[2], x: int) { g(x, a, [x, a[0]]); a[0] = a[0] + x; } proc g(x: int, var a: int[2], b: int[2]) { a = b; x = 0; b[0] = 7; }", "6 1", []int{1, 2, 3}},
		{"record r { k: int, m: bool } proc f(var p: r, var x: int) { g(p, x); } proc g(var p: r, var y: int) { y = p.k; p = r(y + 1, not p.m); }", "2 0 1", []int{1, 1, 5}},
		{"proc f(var x: int) { g(x); } proc g(var y: int) { y = 2; return; }", "2", []int{1}},
		{"proc f(var x: int) { g(x); } proc g(var y: int) { y = 2; assert y == 3; }", "assert: assert y == 3;", []int{1}},
		{"proc f(var x: int) { g(); x = 1; } proc g() { for i = 0 to 7 { } }", "limit: for i = 0 to 7 { }", []int{1}},
		{"proc f(var x: int) { g(x); g(x); } proc g(var y: int) { var z = 3; while z > 0 { z = z - 1; y = y + 1; } }", "7", []int{1}},
		{"proc f(x: int): int { g(x); var y = x; g(y); return x + y; } proc g(var y: int) { y = y + h(y); } proc h(z: int): int { return z; }", "6", []int{1}},
	} {
		runs(t, c.s, c.want, bounds, c.input...)
	}
}

func TestLoops(t *testing.T) {
	sum := "proc f(x: int): int { var s = 0; for i = 1 to x { s = s + i; } return s; }"
	down := "proc f(x: int): int { var n = 0; while x > 0 { x = x - 1; n = n + 1; } return n; }"
	for _, c := range []struct {
		s      string
		loops  int
		want   string
		inputs []int
	}{
		{sum, 3, "6", []int{3}}, {sum, 3, "limit: for i = 1 to x { s = s + i; }", []int{4}}, {sum, 4, "-6", []int{4}}, {sum, 0, "0", []int{0}}, {sum, 0, "0", []int{-8}}, {sum, 0, "limit: for i = 1 to x { s = s + i; }", []int{1}}, {sum, 8, "-4", []int{7}},
		{down, 3, "3", []int{3}}, {down, 3, "limit: while x > 0 { x = x - 1; n = n + 1; }", []int{4}}, {down, 4, "4", []int{4}}, {down, 0, "0", []int{0}}, {down, 0, "limit: while x > 0 { x = x - 1; n = n + 1; }", []int{1}},
		{"proc f(x: int): int { while 6 / x > 0 { x = x - 1; } return x; }", 1, "limit: while 6 / x > 0 { x = x - 1; }", []int{3}},
		{"proc f(x: int): int { while 6 / x > 0 { x = x - 1; } return x; }", 3, "divide: 6 / x", []int{3}},
		{"proc f(x: int): int { var n = 0; for i = 1 to x { x = 0; n = n + i; } return n; }", 3, "6", []int{3}},
		{"proc f(x: int): int { var n = 0; for i = 6 to 7 { n = n + i; } return n; }", 2, "-3", []int{0}},
		{"proc f(x: int): int { var n = 0; for i = -8 to x { n = n + 1; } return n; }", 3, "3", []int{-6}},
		{"proc f(x: int): int { var n = 0; for i = 7 to -8 { n = n + 1; } return n; }", 3, "0", []int{0}},
		{"proc f(x: int): int { var n = 0; for i = 0 to 2 { for j = i to 2 { n = n + 1; } } return n; }", 3, "6", []int{0}},
		{"proc f(x: int): int { var n = 0; for i = 0 to 1 { for j = i to 3 { n = n + 1; } } return n; }", 3, "limit: for j = i to 3 { n = n + 1; }", []int{0}},
		{"proc f(x: int): int { for i = 0 to 1 { var n = 2; while n > 0 { n = n - 1; x = x + 1; } } return x; }", 2, "4", []int{0}},
		{"proc f(x: int): int { for i = 0 to 7 { return i; } return x; }", 1, "0", []int{3}},
		{"proc f(x: int): int { for i = 0 to 7 { x = 6 / x; x = 0; } return x; }", 3, "divide: 6 / x", []int{3}},
	} {
		runs(t, c.s, c.want, api.Bounds{Width: 4, Loops: c.loops}, c.inputs...)
	}
}

func TestWidths(t *testing.T) {
	s := "proc f(x: int): int { return x * 3 + 100; }"
	for width, want := range map[int]string{2: "-1", 3: "-1", 4: "7", 5: "7", 6: "-25", 7: "-25", 8: "103"} {
		runs(t, s, want, api.Bounds{Width: width}, 1)
	}
	runs(t, "proc f(a: int[8]): int { return len(a); }", "0", api.Bounds{Width: 3}, 0, 0, 0, 0, 0, 0, 0, 0)
}

// costly returns statements that cost so much if loops run at most MaxLoops times.
func costly(cost int) string {
	var b strings.Builder
	for _, c := range []struct {
		cost int
		s    string
	}{{1169, "for i = 0 to 0 { for j = 0 to 0 { for k = 0 to 0 { assert true; } } } "}, {145, "for i = 0 to 0 { for j = 0 to 0 { assert true; } } "}, {17, "for i = 0 to 0 { assert true; } "}, {1, "assert true; "}} {
		b.WriteString(strings.Repeat(c.s, cost/c.cost))
		cost %= c.cost
	}
	return b.String()
}

func TestRunErrors(t *testing.T) {
	s := "record point { px: int, pb: bool } proc f(x: int, b: bool): int { return x; } proc g(a: int[2], p: point) { } proc h() { } proc last(): bool { return true; } proc big() { " + costly(api.MaxCost+1) + "}"
	p := checked(t, s)
	for _, c := range []struct {
		entry string
		b     api.Bounds
		input []int
		want  api.Errno
	}{
		{"f", bounds, []int{1, 1}, api.OK}, {"g", bounds, []int{7, -8, 3, 0}, api.OK}, {"h", bounds, nil, api.OK}, {"last", bounds, []int{}, api.OK},
		{"f", api.Bounds{Width: 2}, []int{1, 1}, api.OK}, {"f", api.Bounds{Width: 8, Loops: 8}, []int{127, 1}, api.OK},
		{"f", api.Bounds{Width: 1, Loops: 3}, []int{0, 0}, api.ErrArg}, {"f", api.Bounds{Width: 9, Loops: 3}, []int{0, 0}, api.ErrArg}, {"f", api.Bounds{Width: 4, Loops: -1}, []int{0, 0}, api.ErrArg}, {"f", api.Bounds{Width: 4, Loops: 9}, []int{0, 0}, api.ErrArg},
		{"f", api.Bounds{Width: math.MinInt, Loops: math.MaxInt}, nil, api.ErrArg}, {"none", api.Bounds{}, nil, api.ErrArg},
		{"none", bounds, nil, api.ErrNotFound}, {"", bounds, nil, api.ErrNotFound}, {"point", bounds, []int{1, 1}, api.ErrNotFound}, {"x", bounds, nil, api.ErrNotFound},
		{"big", api.Bounds{Width: 4, Loops: 8}, nil, api.ErrTooLarge}, {"big", api.Bounds{Width: 4, Loops: 8}, []int{99}, api.ErrTooLarge}, {"big", bounds, []int{99}, api.ErrRange}, {"big", bounds, nil, api.OK},
		{"f", bounds, nil, api.ErrRange}, {"f", bounds, []int{1}, api.ErrRange}, {"f", bounds, []int{1, 1, 1}, api.ErrRange}, {"f", bounds, []int{8, 1}, api.ErrRange}, {"f", bounds, []int{-9, 1}, api.ErrRange}, {"f", bounds, []int{1, 2}, api.ErrRange}, {"f", bounds, []int{1, -1}, api.ErrRange},
		{"g", bounds, []int{1, 2, 3}, api.ErrRange}, {"g", bounds, []int{1, 8, 3, 0}, api.ErrRange}, {"g", bounds, []int{1, 7, 3, 3}, api.ErrRange}, {"h", bounds, []int{0}, api.ErrRange}, {"f", api.Bounds{Width: 2}, []int{2, 1}, api.ErrRange},
	} {
		outcome, number, e := interpreter.Run(p, c.entry, c.b, c.input)
		if e != c.want || number != -1 || outcome.Fault != 0 || e != api.OK && len(outcome.Out) > 0 {
			t.Error(c, outcome, number, e)
		}
	}
	if outcome, number, e := interpreter.Run(api.Program{}, "f", bounds, nil); !reflect.DeepEqual(outcome, api.Outcome{}) || number != -1 || e != api.ErrNotFound {
		t.Error(outcome, number, e)
	}
}

func TestTheGreatestCost(t *testing.T) {
	b := api.Bounds{Width: 4, Loops: api.MaxLoops}
	for cost, want := range map[int]api.Errno{api.MaxCost: api.OK, api.MaxCost + 1: api.ErrTooLarge} {
		// The return costs 1, too.
		p := checked(t, "proc f(): bool { "+costly(cost-1)+"return true; }")
		if n, _ := checker.Cost(p, 0, b.Loops); n != cost {
			t.Fatal(n, cost)
		}
		if _, number, e := interpreter.Run(p, "f", b, nil); e != want || number != -1 {
			t.Error(cost, number, e)
		}
		if ok, e := interpreter.Accepts(p, "f", b, nil); ok != (want == api.OK) || e != want {
			t.Error(cost, ok, e)
		}
	}
}

// P12.2

// place returns the number of the expression that begins with a text, the outermost one of them.
func place(t *testing.T, s string, p api.Program, front string) int {
	t.Helper()
	at := strings.Index(s, front)
	for number := range p.Types {
		path, _ := tree.Path(p.Tree, number)
		n, _ := tree.Get(p.Tree, path...)
		if n.At == at && n.Kind >= api.NodeName {
			return number
		}
	}
	t.Fatal("no expression begins with", front)
	return -1
}

const evaluated = "record point { px: int, pb: bool } proc g(x: int): int { return 6 / x; } proc f(a: int[2], b: bool, p: point): int { var y = a[0] + 1; for i = a[1] to y { y = g(a[y]) + i; p = point(y / i, not b or a[3] == 1); } while b { a[y] = len(a); a = [y, y + 1]; p.px = 99; } return -p.px; }"

func TestEvaluate(t *testing.T) {
	s := evaluated
	p := checked(t, s)
	f := api.Frame{Procedure: 1, Call: 77, Slots: []int{3, -2, 1, 5, 0, 1, 2}}
	for _, c := range [][2]string{
		{"a[0] + 1", "4"}, {"a[1] to", "-2"}, {"y { y", "1"}, {"g(a[y]) + i", "-1"}, {"a[y]) + i", "-2"}, {"i; p =", "2"}, {"point(y / i", "index: a[3]"}, {"y / i", "0"}, {"not b", "index: a[3]"}, {"a[3]", "index: a[3]"}, {"3] == 1", "3"},
		{"b { a[y]", "1"}, {"a[y] = len", "-2"}, {"y] = len", "1"}, {"len(a)", "2"}, {"[y, y + 1]", "1 2"}, {"p.px = 99", "5"}, {"99", "3"}, {"-p.px", "-5"}, {"p.px; }", "5"}, {"6 / x", "wrong frame"},
	} {
		number := place(t, s, p, c[0])
		l, fault, node, e := interpreter.Evaluate(p, number, bounds, f)
		got := write(s, p, l, fault, node)
		if e == api.ErrArg && len(l) == 0 && fault == 0 && node == -1 {
			got = "wrong frame"
		}
		if got != c[1] {
			t.Error(c, got, e)
		}
	}
	// The names of arrays and records are expressions, too.
	for front, want := range map[string]string{"a[0] + 1": "3 -2", "p.px": "5 0"} {
		number := place(t, s, p, front)
		for p.Types[number].Kind == api.TypeInt {
			number++
		}
		l, fault, node, e := interpreter.Evaluate(p, number, bounds, f)
		if got := write(s, p, l, fault, node); got != want || e != api.OK {
			t.Error(front, got, e)
		}
	}
	g := api.Frame{Slots: []int{0}}
	l, fault, node, e := interpreter.Evaluate(p, place(t, s, p, "6 / x"), bounds, g)
	if got := write(s, p, l, fault, node); got != "divide: 6 / x" || e != api.OK {
		t.Error(got, e)
	}
}

func TestEvaluateErrors(t *testing.T) {
	s := evaluated
	p := checked(t, s)
	right := api.Frame{Procedure: 1, Slots: []int{3, -2, 1, 5, 0, 1, 2}}
	in := place(t, s, p, "a[0] + 1")
	for _, b := range []api.Bounds{{}, {Width: 1}, {Width: 9}, {Width: 4, Loops: -1}, {Width: 4, Loops: 9}} {
		for _, number := range []int{-1, 0, in} {
			if l, fault, node, e := interpreter.Evaluate(p, number, b, api.Frame{}); len(l) != 0 || fault != 0 || node != -1 || e != api.ErrArg {
				t.Error(b, number, l, fault, node, e)
			}
		}
	}
	for number := -1; number <= len(p.Types); number++ {
		_, _, _, e := interpreter.Evaluate(p, number, bounds, right)
		want := api.ErrNotFound
		if path, ok := tree.Path(p.Tree, number); ok {
			n, _ := tree.Get(p.Tree, path...)
			if n.Kind >= api.NodeName {
				want = api.OK
				if n.At < strings.Index(s, "proc f") {
					want = api.ErrArg
				}
			}
		}
		if e != want {
			t.Error(number, e, want)
		}
	}
	for _, number := range []int{math.MinInt, math.MaxInt} {
		if _, _, node, e := interpreter.Evaluate(p, number, bounds, right); node != -1 || e != api.ErrNotFound {
			t.Error(number, node, e)
		}
	}
	for _, f := range []api.Frame{
		{}, {Procedure: 0, Slots: right.Slots}, {Procedure: 2, Slots: right.Slots}, {Procedure: -1, Slots: right.Slots}, {Procedure: 1}, {Procedure: 1, Slots: right.Slots[:6]}, {Procedure: 1, Slots: append(slices.Clone(right.Slots), 0)},
		{Procedure: 1, Slots: []int{8, -2, 1, 5, 0, 1, 2}}, {Procedure: 1, Slots: []int{3, -9, 1, 5, 0, 1, 2}}, {Procedure: 1, Slots: []int{3, -2, 2, 5, 0, 1, 2}}, {Procedure: 1, Slots: []int{3, -2, 1, 9, 0, 1, 2}}, {Procedure: 1, Slots: []int{3, -2, 1, 5, -1, 1, 2}}, {Procedure: 1, Slots: []int{3, -2, 1, 5, 0, 8, 2}}, {Procedure: 1, Slots: []int{3, -2, 1, 5, 0, 1, -9}},
	} {
		if l, fault, node, e := interpreter.Evaluate(p, in, bounds, f); len(l) != 0 || fault != 0 || node != -1 || e != api.ErrArg {
			t.Error(f, l, fault, node, e)
		}
	}
	if _, _, node, e := interpreter.Evaluate(api.Program{}, 0, bounds, api.Frame{}); node != -1 || e != api.ErrNotFound {
		t.Error(node, e)
	}
}

func TestEvaluateCostlyCalls(t *testing.T) {
	s := "proc h(x: int): int { return big(); } proc big(): int { " + costly(api.MaxCost) + "return 1; } proc f(x: int): int { return x + x * h(1 / 0); }"
	p := checked(t, s)
	i, _ := checker.Find(p, "f")
	f := api.Frame{Procedure: i, Slots: []int{3}}
	for front, want := range map[string]api.Errno{"x + x": api.ErrTooLarge, "x * h": api.ErrTooLarge, "h(1 / 0)": api.ErrTooLarge, "1 / 0": api.OK, "x; }": api.OK} {
		number := 0
		if front == "x; }" {
			number = place(t, s, p, "x + x") + 1
		} else {
			number = place(t, s, p, front)
		}
		l, _, node, e := interpreter.Evaluate(p, number, api.Bounds{Width: 4, Loops: 8}, f)
		if e != want || e != api.OK && (len(l) != 0 || node != -1) {
			t.Error(front, l, node, e)
		}
		if _, _, _, e := interpreter.Evaluate(p, number, bounds, f); e != api.OK {
			t.Error(front, e)
		}
		if _, _, _, e := interpreter.Evaluate(p, number, api.Bounds{Width: 4, Loops: 8}, api.Frame{Procedure: i, Slots: []int{8}}); e != api.ErrArg {
			t.Error(front, e)
		}
	}
}

// P12.3

func TestAccepts(t *testing.T) {
	p := checked(t, "proc f(x: int): bool { return 6 / x == 2; } proc g(x: int): int { return 1; } proc h() { } proc k(): bool { } proc both(a: bool, b: bool): bool { return a and b; } proc one(var x: bool) { x = true; }")
	for _, c := range []struct {
		entry string
		input []int
		want  bool
		e     api.Errno
	}{
		{"f", []int{3}, true, api.OK}, {"f", []int{2}, false, api.OK}, {"f", []int{0}, false, api.OK}, {"k", nil, false, api.OK}, {"both", []int{1, 1}, true, api.OK}, {"both", []int{1, 0}, false, api.OK},
		{"g", []int{1}, false, api.ErrType}, {"h", nil, false, api.ErrType}, {"one", []int{1}, false, api.ErrType}, {"g", []int{8}, false, api.ErrRange}, {"f", []int{8}, false, api.ErrRange}, {"f", nil, false, api.ErrRange}, {"both", []int{1, 2}, false, api.ErrRange}, {"none", nil, false, api.ErrNotFound},
	} {
		if ok, e := interpreter.Accepts(p, c.entry, bounds, c.input); ok != c.want || e != c.e {
			t.Error(c, ok, e)
		}
		if ok, e := interpreter.Accepts(p, c.entry, api.Bounds{}, c.input); ok || e != api.ErrArg {
			t.Error(c, ok, e)
		}
	}
	q := checked(t, "proc f() { "+costly(api.MaxCost+1)+"}")
	if ok, e := interpreter.Accepts(q, "f", api.Bounds{Width: 4, Loops: 8}, []int{1}); ok || e != api.ErrTooLarge {
		t.Error(ok, e)
	}
}

func TestResultsAreNew(t *testing.T) {
	s := "proc f(a: int[2]): int[2] { return a; } proc g(var a: int[2]) { a[0] = 5; }"
	p, want := checked(t, s), checked(t, s)
	input := []int{1, 2}
	one, _, _ := interpreter.Run(p, "f", bounds, input)
	two, _, _ := interpreter.Run(p, "g", bounds, input)
	f := api.Frame{Slots: []int{3, 4}}
	l, _, _, _ := interpreter.Evaluate(p, place(t, s, p, "a; }"), bounds, f)
	if !slices.Equal(one.Out, []int{1, 2}) || !slices.Equal(two.Out, []int{5, 2}) || !slices.Equal(l, []int{3, 4}) {
		t.Fatal(one, two, l)
	}
	one.Out[0], two.Out[1], l[0] = 7, 7, 7
	if !slices.Equal(input, []int{1, 2}) || !slices.Equal(f.Slots, []int{3, 4}) || !reflect.DeepEqual(p, want) {
		t.Error(input, f, p)
	}
}
