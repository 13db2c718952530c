package ranges_test

import (
	"math"
	"reflect"
	"slices"
	"strings"
	"testing"

	"assessor/api"
	"assessor/checker"
	"assessor/flow"
	"assessor/ranges"
	"assessor/tree"
)

// checked returns a program with a text.
func checked(t *testing.T, s string) api.Program {
	t.Helper()
	p, l, e := checker.Check(s)
	if len(l) > 0 || e != api.OK {
		t.Fatal(s, l, e)
	}
	return p
}

// list returns the nodes of a tree in the order of their numbers.
func list(n api.Node) []api.Node {
	l := []api.Node{n}
	for _, k := range n.Kids {
		l = append(l, list(k)...)
	}
	return l
}

// numberOf returns the number of the first node of the last procedure with a text in the source, and one of some kinds.
func numberOf(t *testing.T, p api.Program, source, text string, kinds ...int) int {
	t.Helper()
	last := p.Procedures[len(p.Procedures)-1].Node
	for i, n := range list(p.Tree)[last:] {
		if source[n.At:n.End] == text && slices.Contains(kinds, n.Kind) {
			return last + i
		}
	}
	t.Fatal("no", text, "in", source)
	return 0
}

// to is the range from a number to another one.
func to(lo, hi int) api.Range { return api.Range{Lo: lo, Hi: hi} }

// store is a list of ranges.
func store(l ...api.Range) []api.Range { return l }

// same reports whether two lists of stores are equal.
func same(a, b [][]api.Range) bool { return slices.EqualFunc(a, b, slices.Equal[[]api.Range]) }

// P21.1

const declarations = "record r { n: int, b: bool } proc id(x: int): int { return x; } proc yes(x: int): bool { return true; } "

// The variables are x (0), y (1), c (2), d (3), l (4), q (5), m (6) and v (7).
const header = "proc f(x: int, y: int, c: bool, d: bool, l: int[3], q: r) { var m = [3, 3, 3, 3, 3, 3, 3, 3]; "

// variables returns a store with intervals of x, y, c and d.
func variables(x, y, c, d api.Range) []api.Range {
	return store(x, y, c, d, to(0, 0), to(0, 0), to(0, 0), to(0, 0))
}

// binary is what an operator makes of two intervals.
type binary struct {
	width    int
	operator string
	x, y     api.Range
	want     api.Range
}

func checkBinary(t *testing.T, l []binary) {
	t.Helper()
	for _, x := range l {
		for _, text := range []string{"x " + x.operator + " y", "x" + x.operator + "y"} {
			s := declarations + header + "var v = " + text + "; }"
			p := checked(t, s)
			number := numberOf(t, p, s, text, api.NodeBinary)
			if r, e := ranges.Expression(p, number, x.width, variables(x.x, x.y, to(0, 1), to(0, 1))); r != x.want || e != api.OK {
				t.Error(x, r, e)
			}
		}
	}
}

func TestArithmetic(t *testing.T) {
	all4, all8 := to(-8, 7), to(-128, 127)
	checkBinary(t, []binary{
		{4, "+", to(1, 2), to(3, 4), to(4, 6)}, {4, "+", to(-8, 2), to(0, 5), to(-8, 7)}, {4, "+", to(-8, 2), to(0, 6), all4}, {4, "+", to(7, 7), to(0, 0), to(7, 7)},
		{4, "+", to(7, 7), to(1, 1), all4}, {4, "+", to(-8, -8), to(-1, -1), all4}, {4, "+", to(-8, -4), to(-1, 0), all4}, {8, "+", to(100, 120), to(7, 7), to(107, 127)}, {8, "+", to(100, 120), to(7, 8), all8},
		{4, "-", to(1, 2), to(3, 4), to(-3, -1)}, {4, "-", to(-5, 2), to(-5, 3), to(-8, 7)}, {4, "-", to(-5, 2), to(-6, 3), all4}, {4, "-", to(-5, 2), to(-5, 4), all4}, {4, "-", to(0, 0), to(-8, -8), all4}, {2, "-", to(-1, 0), to(0, 1), to(-2, 0)},
		{4, "*", to(-2, 2), to(-2, 2), to(-4, 4)}, {4, "*", to(-2, 3), to(-1, 2), to(-4, 6)}, {4, "*", to(-2, 3), to(-3, 2), all4}, {4, "*", to(2, 3), to(-2, -1), to(-6, -2)}, {4, "*", to(-3, -2), to(-2, -1), to(2, 6)},
		{4, "*", to(-8, 7), to(0, 0), to(0, 0)}, {4, "*", to(-8, 7), to(1, 1), to(-8, 7)}, {4, "*", to(-8, 7), to(-1, -1), all4}, {4, "*", to(-7, 7), to(-1, -1), to(-7, 7)}, {4, "*", to(4, 4), to(2, 2), all4}, {4, "*", to(4, 4), to(-2, -2), to(-8, -8)},
		{8, "*", to(-128, 127), to(-128, 127), all8}, {8, "*", to(-11, 11), to(-11, 11), to(-121, 121)}, {8, "*", to(-12, 11), to(-11, 10), all8},
		// Only one divisor that is neither 0 nor -1 says more than the type.
		{4, "/", to(-7, 7), to(2, 2), to(-3, 3)}, {4, "/", to(-7, 7), to(-2, -2), to(-3, 3)}, {4, "/", to(-8, 5), to(-3, -3), to(-1, 2)}, {4, "/", to(5, 7), to(1, 1), to(5, 7)}, {4, "/", to(-8, 7), to(-8, -8), to(0, 1)}, {4, "/", to(-8, 7), to(7, 7), to(-1, 1)},
		{4, "/", to(5, 6), to(0, 0), all4}, {4, "/", to(5, 6), to(-1, -1), all4}, {4, "/", to(5, 6), to(2, 3), all4}, {4, "/", to(0, 0), to(1, 2), all4}, {4, "/", to(0, 0), to(-1, 0), all4}, {8, "/", to(-128, 127), to(10, 10), to(-12, 12)}, {8, "/", to(-128, -128), to(-1, -1), all8},
		{4, "%", to(-8, 7), to(3, 3), to(-2, 2)}, {4, "%", to(-8, 7), to(-3, -3), to(-2, 2)}, {4, "%", to(0, 7), to(3, 3), to(0, 2)}, {4, "%", to(-7, 0), to(3, 3), to(-2, 0)}, {4, "%", to(4, 5), to(3, 3), to(0, 2)}, {4, "%", to(-5, -4), to(3, 3), to(-2, 0)},
		{4, "%", to(1, 2), to(5, 5), to(0, 2)}, {4, "%", to(-2, -1), to(5, 5), to(-2, 0)}, {4, "%", to(-1, 2), to(5, 5), to(-1, 2)}, {4, "%", to(-8, 7), to(1, 1), to(0, 0)}, {4, "%", to(-8, 7), to(-1, -1), to(0, 0)}, {4, "%", to(-8, 7), to(-8, -8), to(-7, 7)},
		{4, "%", to(1, 2), to(0, 0), all4}, {4, "%", to(1, 2), to(3, 4), all4}, {4, "%", to(0, 0), to(-1, 0), all4}, {8, "%", to(-128, 127), to(-128, -128), to(-127, 127)}, {8, "%", to(-100, 9), to(50, 50), to(-49, 9)},
	})
}

func TestRelations(t *testing.T) {
	no, yes, open := to(0, 0), to(1, 1), to(0, 1)
	checkBinary(t, []binary{
		{4, "==", to(2, 2), to(2, 2), yes}, {4, "==", to(2, 3), to(2, 3), open}, {4, "==", to(2, 3), to(3, 4), open}, {4, "==", to(2, 3), to(4, 5), no}, {4, "==", to(4, 5), to(2, 3), no}, {4, "==", to(2, 2), to(3, 3), no}, {4, "==", to(2, 2), to(1, 3), open},
		{4, "!=", to(2, 2), to(2, 2), no}, {4, "!=", to(2, 3), to(2, 3), open}, {4, "!=", to(2, 3), to(3, 4), open}, {4, "!=", to(2, 3), to(4, 5), yes}, {4, "!=", to(4, 5), to(2, 3), yes}, {4, "!=", to(2, 2), to(3, 3), yes}, {4, "!=", to(2, 2), to(1, 3), open},
		{4, "<", to(1, 2), to(3, 4), yes}, {4, "<", to(1, 3), to(3, 4), open}, {4, "<", to(3, 4), to(1, 3), no}, {4, "<", to(3, 4), to(1, 4), open}, {4, "<", to(2, 2), to(2, 2), no}, {4, "<", to(-8, 7), to(-8, 7), open},
		{4, "<=", to(1, 3), to(3, 4), yes}, {4, "<=", to(1, 4), to(3, 4), open}, {4, "<=", to(4, 5), to(1, 3), no}, {4, "<=", to(3, 4), to(1, 3), open}, {4, "<=", to(2, 2), to(2, 2), yes},
		{4, ">", to(3, 4), to(1, 2), yes}, {4, ">", to(3, 4), to(1, 3), open}, {4, ">", to(1, 3), to(3, 4), no}, {4, ">", to(1, 4), to(3, 4), open}, {4, ">", to(2, 2), to(2, 2), no},
		{4, ">=", to(3, 4), to(1, 3), yes}, {4, ">=", to(3, 4), to(1, 4), open}, {4, ">=", to(1, 3), to(4, 5), no}, {4, ">=", to(1, 3), to(3, 4), open}, {4, ">=", to(2, 2), to(2, 2), yes}, {8, ">=", to(127, 127), to(-128, 127), yes},
	})
}

func TestExpressions(t *testing.T) {
	no, yes, open := to(0, 0), to(1, 1), to(0, 1)
	all4 := to(-8, 7)
	for _, x := range []struct {
		text       string
		width      int
		x, y, c, d api.Range
		want       api.Range
	}{
		{"0", 4, all4, all4, open, open, to(0, 0)}, {"7", 4, all4, all4, open, open, to(7, 7)}, {"8", 4, all4, all4, open, open, to(-8, -8)}, {"9", 4, all4, all4, open, open, to(-7, -7)}, {"16", 4, all4, all4, open, open, to(0, 0)},
		{"999999999", 8, all4, all4, open, open, to(-1, -1)}, {"2", 2, to(-2, 1), to(-2, 1), open, open, to(-2, -2)}, {"true", 4, all4, all4, open, open, yes}, {"false", 4, all4, all4, open, open, no},
		{"len(l)", 4, all4, all4, open, open, to(3, 3)}, {"len(l)", 2, to(0, 0), to(0, 0), open, open, to(-1, -1)}, {"len(m)", 4, all4, all4, open, open, to(-8, -8)}, {"len(m)", 5, all4, all4, open, open, to(8, 8)},
		{"x", 4, to(-3, 2), all4, open, open, to(-3, 2)}, {"y", 4, all4, to(1, 1), open, open, to(1, 1)}, {"c", 4, all4, all4, no, open, no}, {"d", 4, all4, all4, open, yes, yes},
		{"-x", 4, to(-3, 2), all4, open, open, to(-2, 3)}, {"-x", 4, to(-7, 7), all4, open, open, to(-7, 7)}, {"-x", 4, to(-8, -8), all4, open, open, all4}, {"-x", 4, to(-8, -7), all4, open, open, all4}, {"-x", 4, to(7, 7), all4, open, open, to(-7, -7)},
		{"-(-x)", 4, to(2, 5), all4, open, open, to(2, 5)}, {"-1", 2, to(0, 0), to(0, 0), open, open, to(-1, -1)}, {"-2", 2, to(0, 0), to(0, 0), open, open, to(-2, 1)},
		{"not c", 4, all4, all4, no, open, yes}, {"not c", 4, all4, all4, yes, open, no}, {"not c", 4, all4, all4, open, open, open}, {"not x < y", 4, to(0, 1), to(2, 3), open, open, no},
		{"c and d", 4, all4, all4, no, open, no}, {"c and d", 4, all4, all4, open, no, no}, {"c and d", 4, all4, all4, yes, open, open}, {"c and d", 4, all4, all4, yes, yes, yes}, {"c and d", 4, all4, all4, open, open, open},
		{"c or d", 4, all4, all4, yes, open, yes}, {"c or d", 4, all4, all4, open, yes, yes}, {"c or d", 4, all4, all4, no, open, open}, {"c or d", 4, all4, all4, no, no, no}, {"c or d", 4, all4, all4, open, open, open},
		{"c == d", 4, all4, all4, yes, yes, yes}, {"c == d", 4, all4, all4, no, yes, no}, {"c == d", 4, all4, all4, open, yes, open}, {"c != d", 4, all4, all4, no, yes, yes}, {"c != d", 4, all4, all4, no, no, no},
		// What else there is has the range of its type.
		{"l[0]", 4, to(0, 0), to(0, 0), no, no, all4}, {"l[x]", 3, to(0, 0), to(0, 0), no, no, to(-4, 3)}, {"q.n", 4, to(0, 0), to(0, 0), no, no, all4}, {"q.b", 4, to(0, 0), to(0, 0), no, no, open}, {"id(1)", 4, to(0, 0), to(0, 0), no, no, all4}, {"yes(1)", 8, to(0, 0), to(0, 0), no, no, open},
		{"id(1) * 0", 4, all4, all4, open, open, to(0, 0)}, {"x - x", 4, to(1, 3), all4, open, open, to(-2, 2)}, {"x * x", 4, to(-2, 2), all4, open, open, to(-4, 4)}, {"x - 3", 4, to(3, 5), all4, open, open, to(0, 2)},
		{"(x + y) % 4", 4, to(0, 3), to(0, 3), open, open, to(0, 3)}, {"(x + y) % 4", 4, to(0, 4), to(0, 4), open, open, to(-3, 3)}, {"x + 1 > y and c", 4, to(3, 4), to(0, 3), yes, open, yes}, {"x == x", 4, to(3, 4), all4, open, open, open}, {"x < x", 4, to(3, 3), all4, open, open, no},
	} {
		s := declarations + header + "var v = " + x.text + "; }"
		p := checked(t, s)
		l := variables(x.x, x.y, x.c, x.d)
		if r, e := ranges.Expression(p, numberOf(t, p, s, x.text, api.NodeName, api.NodeIndex, api.NodeMember, api.NodeLen, api.NodeNumber, api.NodeBool, api.NodeCall, api.NodeUnary, api.NodeBinary), x.width, l); r != x.want || e != api.OK {
			t.Error(x.text, x.width, l, r, e)
		}
	}
}

func TestRestrict(t *testing.T) {
	no, yes, open := to(0, 0), to(1, 1), to(0, 1)
	for _, x := range []struct {
		text       string
		truth      bool
		x, y, c, d api.Range
		ok         bool
		wantX      api.Range
		wantC      api.Range
		wantD      api.Range
	}{
		// 1. The condition cannot have the value.
		{"x < y", true, to(3, 4), to(0, 3), open, open, false, no, no, no}, {"x < y", false, to(3, 4), to(5, 6), open, open, false, no, no, no}, {"c", true, no, no, no, open, false, no, no, no}, {"c", false, no, no, yes, open, false, no, no, no}, {"true", false, no, no, no, no, false, no, no, no}, {"false", true, no, no, no, no, false, no, no, no},
		{"l[0] > 7", true, no, no, no, no, false, no, no, no}, {"c or d", false, no, no, open, yes, false, no, no, no}, {"c and d", true, no, no, open, no, false, no, no, no}, {"x == x", false, to(2, 2), no, no, no, false, no, no, no},
		// 2. not, and, or.
		{"not c", true, no, no, open, open, true, no, no, open}, {"not c", false, no, no, open, open, true, no, yes, open}, {"not not c", true, no, no, open, open, true, no, yes, open}, {"not x < 3", true, to(0, 7), no, open, open, true, to(3, 7), open, open}, {"not (c and d)", false, no, no, open, open, true, no, yes, yes}, {"not (c or d)", true, no, no, open, open, true, no, no, no},
		{"c and d", true, no, no, open, open, true, no, yes, yes}, {"c and d", false, no, no, open, open, true, no, open, open}, {"c or d", false, no, no, open, open, true, no, no, no}, {"c or d", true, no, no, open, open, true, no, open, open},
		{"c and d", false, no, no, yes, open, true, no, yes, open}, {"c or d", true, no, no, no, open, true, no, no, open},
		{"x > 2 and x < 5", true, to(-8, 7), no, open, open, true, to(3, 4), open, open}, {"x > 2 and x < 3", true, to(-8, 7), no, open, open, false, no, no, no}, {"x < 2 or x > 5", false, to(-8, 7), no, open, open, true, to(2, 5), open, open}, {"x < 2 or x > 1", false, to(-8, 7), no, open, open, false, no, no, no},
		{"c and not c", true, no, no, open, open, false, no, no, no}, {"c and not c and d", true, no, no, open, open, false, no, no, no}, {"c or not c", false, no, no, open, open, false, no, no, no}, {"c and (d and x == 1)", true, to(-8, 7), no, open, open, true, to(1, 1), yes, yes}, {"x > 3 and x < y", true, to(-8, 7), to(0, 6), open, open, true, to(4, 5), open, open},
		// 3. Names.
		{"c", true, no, no, open, open, true, no, yes, open}, {"d", false, no, no, open, open, true, no, open, no}, {"c", true, no, no, yes, open, true, no, yes, open},
		// 4. Comparisons of a variable on the left.
		{"x == y", true, to(-3, 2), to(0, 5), open, open, true, to(0, 2), open, open}, {"x == y", true, to(0, 5), to(-3, 2), open, open, true, to(0, 2), open, open}, {"x == y", true, to(0, 5), to(2, 3), open, open, true, to(2, 3), open, open}, {"x == 3", true, to(0, 5), no, open, open, true, to(3, 3), open, open}, {"x == 3", false, to(3, 5), no, open, open, true, to(4, 5), open, open},
		{"x != 3", true, to(3, 5), no, open, open, true, to(4, 5), open, open}, {"x != 5", true, to(3, 5), no, open, open, true, to(3, 4), open, open}, {"x != 4", true, to(3, 5), no, open, open, true, to(3, 5), open, open}, {"x != 3", true, to(3, 4), no, open, open, true, to(4, 4), open, open}, {"x != y", true, to(3, 5), to(3, 4), open, open, true, to(3, 5), open, open}, {"x != y", true, to(3, 5), to(3, 3), open, open, true, to(4, 5), open, open}, {"x != 3", false, to(-8, 7), no, open, open, true, to(3, 3), open, open}, {"x != y", false, to(-8, 4), to(1, 7), open, open, true, to(1, 4), open, open},
		{"x != 0", true, to(-2, 2), no, open, open, true, to(-2, 2), open, open}, {"x != 9", true, to(-7, 2), no, open, open, true, to(-6, 2), open, open},
		{"x < y", true, to(0, 7), to(0, 5), open, open, true, to(0, 4), open, open}, {"x < y", true, to(0, 3), to(0, 5), open, open, true, to(0, 3), open, open}, {"x < y", false, to(0, 7), to(2, 5), open, open, true, to(2, 7), open, open}, {"x < 1", true, to(0, 7), no, open, open, true, to(0, 0), open, open},
		{"x <= y", true, to(0, 7), to(0, 5), open, open, true, to(0, 5), open, open}, {"x <= y", false, to(0, 7), to(2, 5), open, open, true, to(3, 7), open, open}, {"x <= 0", true, to(0, 7), no, open, open, true, to(0, 0), open, open},
		{"x > y", true, to(0, 7), to(2, 5), open, open, true, to(3, 7), open, open}, {"x > y", true, to(6, 7), to(2, 5), open, open, true, to(6, 7), open, open}, {"x > y", false, to(0, 7), to(2, 5), open, open, true, to(0, 5), open, open}, {"x > 6", true, to(0, 7), no, open, open, true, to(7, 7), open, open},
		{"x >= y", true, to(0, 7), to(2, 5), open, open, true, to(2, 7), open, open}, {"x >= y", false, to(0, 7), to(2, 5), open, open, true, to(0, 4), open, open}, {"x >= 7", true, to(0, 7), no, open, open, true, to(7, 7), open, open},
		{"x < x", true, to(3, 5), no, open, open, true, to(3, 4), open, open}, {"x > x + 1", true, to(0, 5), no, open, open, true, to(2, 5), open, open}, {"x < l[0]", true, to(-8, 7), no, open, open, true, to(-8, 6), open, open}, {"x <= len(l)", true, to(-8, 7), no, open, open, true, to(-8, 3), open, open},
		// 5. All others.
		{"3 > x", true, to(0, 7), no, open, open, true, to(0, 7), open, open}, {"-x < 0", true, to(-7, 7), no, open, open, true, to(-7, 7), open, open}, {"x + 0 < 3", true, to(0, 7), no, open, open, true, to(0, 7), open, open}, {"c == d", true, no, no, open, yes, true, no, open, yes}, {"c != true", true, no, no, open, open, true, no, open, open}, {"q.b", true, no, no, open, open, true, no, open, open}, {"yes(x)", false, no, no, open, open, true, no, open, open}, {"true", true, no, no, open, open, true, no, open, open}, {"l[0] == 2", true, no, no, open, open, true, no, open, open}, {"q.n > 2", true, no, no, open, open, true, no, open, open}, {"not q.b", true, no, no, open, open, true, no, open, open},
	} {
		s := declarations + header + "var v = " + x.text + "; }"
		p := checked(t, s)
		number := numberOf(t, p, s, x.text, api.NodeName, api.NodeMember, api.NodeBool, api.NodeCall, api.NodeUnary, api.NodeBinary)
		want := []api.Range(nil)
		if x.ok {
			want = variables(x.wantX, x.y, x.wantC, x.wantD)
		}
		l, ok, e := ranges.Restrict(p, number, 4, x.truth, variables(x.x, x.y, x.c, x.d))
		if !slices.Equal(l, want) || ok != x.ok || e != api.OK {
			t.Error(x.text, x.truth, x.x, x.y, x.c, x.d, l, ok, e)
		}
	}
}

func TestRestrictOperandsInOrder(t *testing.T) {
	// What the right operand says of y comes too late for x; the other way round it does not.
	for _, x := range []struct {
		text         string
		wantX, wantY api.Range
	}{{"x < y and y < 5", to(0, 6), to(0, 4)}, {"y < 5 and x < y", to(0, 3), to(0, 4)}, {"x < y and y > x", to(0, 6), to(1, 7)}} {
		s := declarations + header + "var v = " + x.text + "; }"
		p := checked(t, s)
		l, ok, e := ranges.Restrict(p, numberOf(t, p, s, x.text, api.NodeBinary), 4, true, variables(to(0, 7), to(0, 7), to(0, 1), to(0, 1)))
		if !slices.Equal(l, variables(x.wantX, x.wantY, to(0, 1), to(0, 1))) || !ok || e != api.OK {
			t.Error(x.text, l, ok, e)
		}
	}
}

func TestPlacesAreExpressions(t *testing.T) {
	s := declarations + "proc f(x: int, l: int[2], q: r) { x = 1; l[x] = 2; q.b = true; }"
	p := checked(t, s)
	l := store(to(0, 1), to(0, 0), to(0, 0))
	for _, x := range []struct {
		text string
		kind int
		want api.Range
	}{{"x", api.NodeName, to(0, 1)}, {"l[x]", api.NodeIndex, to(-4, 3)}, {"q.b", api.NodeMember, to(0, 1)}} {
		if r, e := ranges.Expression(p, numberOf(t, p, s, x.text, x.kind), 3, l); r != x.want || e != api.OK {
			t.Error(x.text, r, e)
		}
	}
}

func TestErrorsOfExpressions(t *testing.T) {
	p := checked(t, "record r { n: int, b: bool } proc f(x: int, c: bool, l: int[2], q: r) { var y = [x, x]; if c { y = l; } q = r(1, c); } proc g() { assert 1 > 2; }")
	good := store(to(-2, 1), to(0, 1), to(0, 0), to(0, 0), to(0, 0))
	count := tree.Count(p.Tree)
	for i, n := range list(p.Tree) {
		kind := api.TypeNone
		switch {
		case n.Kind == api.NodeNumber || n.Kind == api.NodeName && n.Text == "x":
			kind = api.TypeInt
		case n.Kind == api.NodeBinary || n.Kind == api.NodeName && n.Text == "c":
			kind = api.TypeBool
		}
		// The procedure g has no variables.
		l, other := good, []api.Range(nil)
		if i > p.Procedures[1].Node {
			l, other = other, l
		}
		wantExpression, wantRestrict := api.ErrNotFound, api.ErrNotFound
		if kind != api.TypeNone {
			wantExpression = api.OK
		}
		if kind == api.TypeBool {
			wantRestrict = api.OK
		}
		expect(t, p, i, 2, l, wantExpression, wantRestrict)
		expect(t, p, i, 1, l, api.ErrRange, api.ErrRange)
		if kind != api.TypeNone {
			wantExpression = api.ErrArg
		}
		if kind == api.TypeBool {
			wantRestrict = api.ErrArg
		}
		expect(t, p, i, 2, other, wantExpression, wantRestrict)
		expect(t, p, i, 2, store(to(0, 0)), wantExpression, wantRestrict)
	}
	for _, i := range []int{-1, count, math.MinInt, math.MaxInt} {
		expect(t, p, i, 8, good, api.ErrNotFound, api.ErrNotFound)
		expect(t, p, i, 9, good, api.ErrRange, api.ErrRange)
		expect(t, p, i, 2, nil, api.ErrNotFound, api.ErrNotFound)
	}
	expect(t, api.Program{}, 0, 2, nil, api.ErrNotFound, api.ErrNotFound)
	expect(t, api.Program{}, 0, 0, nil, api.ErrRange, api.ErrRange)
}

// expect checks the errors of Expression and Restrict, and that nothing else is returned with them.
func expect(t *testing.T, p api.Program, number, width int, l []api.Range, expression, restrict api.Errno) {
	t.Helper()
	if r, e := ranges.Expression(p, number, width, l); e != expression || e != api.OK && r != to(0, 0) {
		t.Error("Expression", number, width, l, r, e)
	}
	for _, truth := range []bool{false, true} {
		if r, ok, e := ranges.Restrict(p, number, width, truth, l); e != restrict || e != api.OK && (ok || len(r) > 0) {
			t.Error("Restrict", number, width, l, r, ok, e)
		}
	}
}

func TestStores(t *testing.T) {
	s := "record r { n: int, b: bool } proc f(x: int, c: bool, l: int[2], q: r) { while c and x > 0 { var y = [x]; x = x - 1; } for i = 1 to 2 { } }"
	p := checked(t, s)
	number := numberOf(t, p, s, "x > 0", api.NodeBinary)
	with := func(i int, r api.Range) []api.Range {
		l := store(to(-4, 3), to(0, 1), to(0, 0), to(0, 0), to(0, 0), to(-4, 3))
		l[i] = r
		return l
	}
	for _, x := range []struct {
		variable int
		r        api.Range
		ok       bool
	}{
		{0, to(-4, 3), true}, {0, to(3, 3), true}, {0, to(-4, -4), true}, {0, to(-5, 3), false}, {0, to(-4, 4), false}, {0, to(1, 0), false}, {0, to(4, 4), false}, {0, to(-5, -5), false}, {0, to(math.MinInt, math.MaxInt), false}, {0, to(math.MaxInt, math.MinInt), false},
		{1, to(0, 1), true}, {1, to(0, 0), true}, {1, to(1, 1), true}, {1, to(1, 0), false}, {1, to(0, 2), false}, {1, to(-1, 1), false}, {1, to(2, 2), false},
		{2, to(0, 0), true}, {2, to(0, 1), false}, {2, to(-1, 0), false}, {2, to(1, 1), false}, {3, to(0, 1), false}, {3, to(1, 0), false}, {4, to(0, 1), false}, {4, to(-1, -1), false}, {5, to(1, 2), true}, {5, to(2, 1), false}, {5, to(0, 8), false},
	} {
		want := api.ErrArg
		if x.ok {
			want = api.OK
		}
		l := with(x.variable, x.r)
		expect(t, p, number, 3, l, want, want)
		expect(t, p, number, 3, l[:5], api.ErrArg, api.ErrArg)
		expect(t, p, number, 3, append(l, to(0, 0)), api.ErrArg, api.ErrArg)
		expect(t, p, number, 3, nil, api.ErrArg, api.ErrArg)
	}
	// The ranges of the types are those of the width.
	expect(t, p, number, 2, with(0, to(-2, 1)), api.ErrArg, api.ErrArg)
	expect(t, p, number, 8, with(0, to(-128, 127)), api.OK, api.OK)
	expect(t, p, number, 8, with(0, to(-128, 128)), api.ErrArg, api.ErrArg)
}

// P21.2

func TestAnalyze(t *testing.T) {
	none := []api.Range(nil)
	for _, x := range []struct {
		text       string
		width      int
		parameters []api.Range
		want       [][]api.Range
	}{
		{"proc f() { }", 4, nil, [][]api.Range{none, none}},
		{"proc f(x: int) { }", 4, store(to(2, 3)), [][]api.Range{none, store(to(2, 3))}},
		// The example of the chapter.
		{"proc f(x: int): int { if x > 2 { return x - 3; } return x * x; }", 4, store(to(-2, 5)), [][]api.Range{none, store(to(-2, 5)), store(to(-2, 5)), store(to(3, 5)), store(to(-2, 2))}},
		// Other variables have the range of their type at the beginning, and those without one have {0, 0}.
		{"record r { b: bool } proc f(l: int[2], q: r, c: bool) { var y = 1; var d = c; var m = l; var p = q; for i = 0 to 1 { } }", 2, store(to(0, 0), to(0, 0), to(1, 1)), [][]api.Range{none,
			store(to(0, 0), to(0, 0), to(1, 1), to(1, 1), to(1, 1), to(0, 0), to(0, 0), to(0, 1)),
			store(to(0, 0), to(0, 0), to(1, 1), to(-2, 1), to(0, 1), to(0, 0), to(0, 0), to(-2, 1)),
			store(to(0, 0), to(0, 0), to(1, 1), to(1, 1), to(0, 1), to(0, 0), to(0, 0), to(-2, 1)),
			store(to(0, 0), to(0, 0), to(1, 1), to(1, 1), to(1, 1), to(0, 0), to(0, 0), to(-2, 1)),
			store(to(0, 0), to(0, 0), to(1, 1), to(1, 1), to(1, 1), to(0, 0), to(0, 0), to(-2, 1)),
			store(to(0, 0), to(0, 0), to(1, 1), to(1, 1), to(1, 1), to(0, 0), to(0, 0), to(-2, 1)),
			store(to(0, 0), to(0, 0), to(1, 1), to(1, 1), to(1, 1), to(0, 0), to(0, 0), to(0, 1))}},
		// Assignments to variables change them, those to elements and fields do not.
		{"record r { n: int } proc f(x: int, l: int[2], q: r) { x = x + 1; l[0] = 7; q.n = x; l = [1, x]; q = r(1); x = l[0]; }", 4, store(to(1, 2), to(0, 0), to(0, 0)), [][]api.Range{none,
			store(to(-8, 7), to(0, 0), to(0, 0)), store(to(1, 2), to(0, 0), to(0, 0)), store(to(2, 3), to(0, 0), to(0, 0)), store(to(2, 3), to(0, 0), to(0, 0)), store(to(2, 3), to(0, 0), to(0, 0)), store(to(2, 3), to(0, 0), to(0, 0)), store(to(2, 3), to(0, 0), to(0, 0))}},
		// Only the arguments for var parameters are changed by a call.
		{"proc g(var a: int, b: int, var c: bool, var l: int[2]) { } proc f(x: int, y: int, c: bool, l: int[2]) { g(x, y, c, l); }", 3, store(to(1, 1), to(2, 2), to(1, 1), to(0, 0)), [][]api.Range{none,
			store(to(-4, 3), to(2, 2), to(0, 1), to(0, 0)), store(to(1, 1), to(2, 2), to(1, 1), to(0, 0))}},
		{"proc g(b: int, var a: int) { } proc f(x: int, y: int) { g(x, y); }", 3, store(to(1, 1), to(2, 2)), [][]api.Range{none, store(to(1, 1), to(-4, 3)), store(to(1, 1), to(2, 2))}},
		{"proc h() { } proc f(x: int) { h(); }", 3, store(to(1, 1)), [][]api.Range{none, store(to(1, 1)), store(to(1, 1))}},
		// An assertion, and one that cannot hold.
		{"proc f(x: int, c: bool) { assert x > 0 and c; x = x - 1; }", 4, store(to(-3, 3), to(0, 1)), [][]api.Range{none, store(to(0, 2), to(1, 1)), store(to(-3, 3), to(0, 1)), store(to(1, 3), to(1, 1))}},
		{"proc f(x: int) { assert x > 3; x = x - 1; }", 4, store(to(-3, 3)), [][]api.Range{none, none, store(to(-3, 3)), none}},
		// Both edges of an if, also those to one point, and those that nothing is sent over.
		{"proc f(x: int, c: bool) { if c { } x = 1; }", 4, store(to(-3, 3), to(0, 1)), [][]api.Range{none, store(to(1, 1), to(0, 1)), store(to(-3, 3), to(0, 1)), store(to(-3, 3), to(0, 1))}},
		{"proc f(x: int) { if x > 3 { } x = 1; }", 4, store(to(-3, 5)), [][]api.Range{none, store(to(1, 1)), store(to(-3, 5)), store(to(-3, 5))}},
		{"proc f(x: int) { if x < 3 { assert false; } x = 1; }", 4, store(to(-3, 5)), [][]api.Range{none, store(to(1, 1)), store(to(-3, 5)), store(to(-3, 2)), store(to(3, 5))}},
		{"proc f(x: int) { if x < 6 { x = 7; } else { x = 1; } x = -x; }", 4, store(to(-3, 5)), [][]api.Range{none, store(to(-7, -7)), store(to(-3, 5)), store(to(-3, 5)), none, store(to(7, 7))}},
		{"proc f(x: int) { if x < 2 { x = 7; } else if x == 3 { x = 5; } else { x = x + 1; } x = x; }", 4, store(to(-3, 3)), [][]api.Range{none, store(to(3, 7)), store(to(-3, 3)), store(to(-3, 1)), store(to(2, 3)), store(to(3, 3)), store(to(2, 2)), store(to(3, 7))}},
		// What is behind a return is reached by nothing.
		{"proc f(x: int): int { if x > 0 { return x; } x = 3; return x; x = 4; }", 4, store(to(-3, 3)), [][]api.Range{none, store(to(1, 3)), store(to(-3, 3)), store(to(1, 3)), store(to(-3, 0)), store(to(3, 3)), none}},
		// Loops.
		{"proc f(x: int) { while x < 3 { x = x + 1; } x = 0; }", 4, store(to(-1, 0)), [][]api.Range{none, store(to(0, 0)), store(to(-1, 3)), store(to(-1, 2)), store(to(3, 3))}},
		{"proc f(x: int) { while true { x = x + 1; } x = 0; }", 4, store(to(1, 1)), [][]api.Range{none, none, store(to(-8, 7)), store(to(-8, 7)), none}},
		{"proc f(x: int) { while x != 4 { x = x + 2; } }", 4, store(to(0, 0)), [][]api.Range{none, store(to(4, 4)), store(to(-8, 7)), store(to(-8, 7))}},
		{"proc f(x: int) { var y = 0; while y < x { y = y + 1; assert y < 4; } }", 8, store(to(0, 100)), [][]api.Range{none, store(to(0, 100), to(0, 3)), store(to(0, 100), to(-128, 127)), store(to(0, 100), to(0, 3)), store(to(0, 100), to(0, 3)), store(to(0, 100), to(1, 4))}},
		{"proc f(x: int) { for i = x to 3 { x = i; } x = x; }", 4, store(to(1, 1)), [][]api.Range{none, store(to(1, 3), to(1, 3)), store(to(1, 1), to(-8, 7)), store(to(1, 3), to(1, 3)), store(to(1, 3), to(1, 3)), store(to(1, 3), to(1, 3))}},
		{"proc f(x: int) { for i = 5 to x { } }", 4, store(to(-1, 1)), [][]api.Range{none, store(to(-1, 1), to(-1, 5)), store(to(-1, 1), to(-8, 7)), store(to(-1, 1), to(-1, 5))}},
		{"proc f(x: int) { for i = 0 to 1 { for j = i to x { x = x - 1; } } }", 3, store(to(2, 2)), [][]api.Range{none, store(to(-4, 3), to(0, 1), to(-4, 3)), store(to(2, 2), to(-4, 3), to(-4, 3)), store(to(-4, 3), to(0, 1), to(-4, 3)), store(to(-4, 3), to(0, 1), to(-4, 3)), store(to(-4, 3), to(0, 1), to(-4, 3)), store(to(-4, 3), to(0, 1), to(-4, 3))}},
		// The least intervals: what only holds itself up is not there.
		{"proc f(x: int, y: int) { x = 1; while y > 0 { y = y - x; if x != 1 { x = 5; } } }", 4, store(to(0, 0), to(0, 7)), [][]api.Range{none, store(to(1, 1), to(0, 0)), store(to(0, 0), to(0, 7)), store(to(1, 1), to(0, 7)), store(to(1, 1), to(1, 7)), store(to(1, 1), to(0, 6)), none}},
		{"proc f(x: int) { while x < 7 { if x < 100 { x = x + 1; } } }", 8, store(to(-9, 3)), [][]api.Range{none, store(to(7, 7)), store(to(-9, 7)), store(to(-9, 6)), store(to(-9, 6))}},
	} {
		p := checked(t, x.text)
		if l, e := ranges.Analyze(p, len(p.Procedures)-1, x.width, x.parameters); !same(l, x.want) || e != api.OK {
			t.Error(x.text, l, e)
		}
	}
}

func TestErrorsOfAnalyze(t *testing.T) {
	p := checked(t, "proc g(x: int) { } proc f(x: int, c: bool, l: int[2]) { var y = 1; }")
	good := store(to(-4, 3), to(0, 1), to(0, 0))
	for i, x := range []struct {
		p                api.Program
		procedure, width int
		parameters       []api.Range
		want             api.Errno
	}{
		{p, 1, 3, good, api.OK}, {p, 1, 1, good, api.ErrRange}, {p, 1, 9, good, api.ErrRange}, {p, 1, 0, good, api.ErrRange}, {p, 1, -3, good, api.ErrRange}, {p, 1, math.MaxInt, good, api.ErrRange}, {p, 1, math.MinInt, good, api.ErrRange}, {p, 2, 1, nil, api.ErrRange},
		{p, 2, 3, good, api.ErrNotFound}, {p, -1, 3, good, api.ErrNotFound}, {p, math.MaxInt, 3, nil, api.ErrNotFound}, {p, math.MinInt, 3, nil, api.ErrNotFound}, {api.Program{}, 0, 3, nil, api.ErrNotFound}, {api.Program{}, 0, 1, nil, api.ErrRange},
		{p, 1, 3, nil, api.ErrArg}, {p, 1, 3, good[:2], api.ErrArg}, {p, 1, 3, append(slices.Clone(good), to(0, 0)), api.ErrArg}, {p, 0, 3, good, api.ErrArg}, {p, 0, 3, good[:1], api.OK}, {p, 1, 2, good, api.ErrArg}, {p, 1, 8, good, api.OK},
		{p, 1, 3, store(to(-5, 3), to(0, 1), to(0, 0)), api.ErrArg}, {p, 1, 3, store(to(-4, 4), to(0, 1), to(0, 0)), api.ErrArg}, {p, 1, 3, store(to(1, 0), to(0, 1), to(0, 0)), api.ErrArg}, {p, 1, 3, store(to(4, 4), to(0, 1), to(0, 0)), api.ErrArg},
		{p, 1, 3, store(to(0, 0), to(0, 2), to(0, 0)), api.ErrArg}, {p, 1, 3, store(to(0, 0), to(-1, 0), to(0, 0)), api.ErrArg}, {p, 1, 3, store(to(0, 0), to(1, 0), to(0, 0)), api.ErrArg}, {p, 1, 3, store(to(0, 0), to(1, 1), to(0, 1)), api.ErrArg}, {p, 1, 3, store(to(0, 0), to(1, 1), to(1, 1)), api.ErrArg}, {p, 1, 3, store(to(0, 0), to(1, 1), to(-4, 3)), api.ErrArg},
	} {
		if l, e := ranges.Analyze(x.p, x.procedure, x.width, x.parameters); e != x.want || e != api.OK && len(l) > 0 {
			t.Error(i, l, e)
		}
	}
}

// P21.3

func TestRounds(t *testing.T) {
	limit := 1 << 30
	for _, x := range []struct {
		loops, from, to, want int
		ok                    bool
	}{
		{3, 1, 3, 3, true}, {3, 1, 4, 0, false}, {3, 1, 2, 2, true}, {3, 2, 2, 1, true}, {3, 2, 1, 0, true}, {3, 7, -8, 0, true}, {3, -1, 1, 3, true}, {3, -2, 1, 0, false}, {0, 1, 0, 0, true}, {0, 1, 1, 0, false}, {8, 0, 7, 8, true}, {8, 0, 8, 0, false},
		// The number of rounds is compared with Loops, whatever it is.
		{-1, 1, 0, 0, false}, {-1, 1, 1, 0, false}, {100, 1, 100, 100, true}, {math.MaxInt, -limit, limit, 2*limit + 1, true}, {math.MinInt, 5, 0, 0, false},
		{math.MaxInt, limit, limit, 1, true}, {math.MaxInt, -limit, -limit, 1, true}, {8, limit, -limit, 0, true}, {8, limit + 1, -limit, 0, false}, {8, limit, -limit - 1, 0, false}, {8, -limit - 1, -limit, 0, false}, {8, limit, limit + 1, 0, false}, {8, limit + 1, limit + 1, 0, false}, {8, -limit - 1, -limit - 1, 0, false},
		{8, math.MinInt, math.MaxInt, 0, false}, {8, math.MaxInt, math.MinInt, 0, false}, {math.MaxInt, 0, math.MaxInt, 0, false}, {8, math.MinInt, 0, 0, false}, {8, math.MaxInt, 0, 0, false}, {8, 0, math.MinInt, 0, false},
	} {
		for _, width := range []int{4, 0, math.MaxInt} {
			if n, ok := ranges.Rounds(api.Bounds{Width: width, Loops: x.loops}, x.from, x.to); n != x.want || ok != x.ok {
				t.Error(x, n, ok)
			}
		}
	}
}

func TestGrows(t *testing.T) {
	// The variables are x (0), y (1), c (2), q (3), i (4) and perhaps j.
	for _, x := range []struct {
		block string
		want  []api.Growth
		e     api.Errno
	}{
		{"", nil, api.OK},
		{"x = x + 1;", []api.Growth{{Variable: 0, Step: 1}}, api.OK}, {"x = 3 + x;", []api.Growth{{Variable: 0, Step: 3}}, api.OK}, {"x = x - 2;", []api.Growth{{Variable: 0, Step: -2}}, api.OK}, {"x = (x) + (0);", []api.Growth{{Variable: 0, Step: 0}}, api.OK},
		{"x = x + 1; x = x - 3; x = 4 + x; x = x + 1;", []api.Growth{{Variable: 0, Step: 3}}, api.OK}, {"x = x + 1; x = x - 1;", []api.Growth{{Variable: 0, Step: 0}}, api.OK}, {"x = x + 999999999; x = 999999999 + x;", []api.Growth{{Variable: 0, Step: 1999999998}}, api.OK},
		{"y = y - 1; x = x + 2; y = y - 3;", []api.Growth{{Variable: 0, Step: 2}, {Variable: 1, Step: -4}}, api.OK}, {"x = x + 2; y = 1 + y;", []api.Growth{{Variable: 0, Step: 2}, {Variable: 1, Step: 1}}, api.OK},
		{"x = 2 - x;", nil, api.ErrState}, {"x = x * 1;", nil, api.ErrState}, {"x = x / 1;", nil, api.ErrState}, {"x = x % 2;", nil, api.ErrState}, {"x = y + 1;", nil, api.ErrState}, {"x = 1 + y;", nil, api.ErrState}, {"x = y - 1;", nil, api.ErrState}, {"x = x + x;", nil, api.ErrState}, {"x = x + y;", nil, api.ErrState}, {"x = x - x;", nil, api.ErrState},
		{"x = 1;", nil, api.ErrState}, {"x = x;", nil, api.ErrState}, {"x = 1 + 2;", nil, api.ErrState}, {"x = x + 1 + 1;", nil, api.ErrState}, {"x = x + (1 + 1);", nil, api.ErrState}, {"x = x + -1;", nil, api.ErrState}, {"x = -1 + x;", nil, api.ErrState}, {"x = -x;", nil, api.ErrState}, {"x = i + 1;", nil, api.ErrState}, {"x = x + i;", nil, api.ErrState}, {"x = x + l[0];", nil, api.ErrState}, {"x = x + len(l);", nil, api.ErrState}, {"x = id(x);", nil, api.ErrState}, {"x = l[0] + 1;", nil, api.ErrState},
		{"l[0] = l[0] + 1;", nil, api.ErrState}, {"l[1] = x + 1;", nil, api.ErrState}, {"q.n = q.n + 1;", nil, api.ErrState}, {"c = not c;", nil, api.ErrState}, {"c = x == 1;", nil, api.ErrState}, {"c = c == true;", nil, api.ErrState}, {"l = l;", nil, api.ErrState},
		{"x = x + 1; assert c;", nil, api.ErrState}, {"assert c; x = x + 1;", nil, api.ErrState}, {"var z = x + 1;", nil, api.ErrState}, {"if c { x = x + 1; }", nil, api.ErrState}, {"x = x + 1; while c { }", nil, api.ErrState}, {"for j = 0 to 1 { x = x + 1; }", nil, api.ErrState}, {"for j = 0 to 1 { }", nil, api.ErrState}, {"return;", nil, api.ErrState}, {"nothing();", nil, api.ErrState},
	} {
		s := "record r { n: int } proc id(z: int): int { return z; } proc nothing() { } proc f(x: int, var y: int, c: bool, q: r, l: int[2]) { for i = x to y { " + x.block + " } }"
		p := checked(t, s)
		if l, e := ranges.Grows(p, 2, p.Procedures[2].Variables[5].Node); !slices.Equal(l, x.want) || e != x.e {
			t.Error(x.block, l, e)
		}
	}
}

func TestGrowsWithOneNameForTwoVariables(t *testing.T) {
	p := checked(t, "proc f(y: int, c: bool) { if c { var x = 1; } else { var x = 2; for i = 0 to 1 { x = x + 1; y = y - 2; } } }")
	if l, e := ranges.Grows(p, 0, p.Procedures[0].Variables[4].Node); !slices.Equal(l, []api.Growth{{Variable: 0, Step: -2}, {Variable: 3, Step: 1}}) || e != api.OK {
		t.Error(l, e)
	}
}

func TestErrorsOfGrows(t *testing.T) {
	p := checked(t, "proc g(x: int) { for i = 0 to 1 { x = x + 1; } while x > 0 { x = x - 1; } } proc f(x: int) { for i = 0 to 1 { x = x + 1; } }")
	first, second := p.Procedures[0].Variables[1].Node, p.Procedures[1].Variables[1].Node
	for i, n := range list(p.Tree) {
		for procedure, node := range []int{first, second} {
			l, e := ranges.Grows(p, procedure, i)
			if i == node && (e != api.OK || len(l) != 1) || i != node && (e != api.ErrNotFound || len(l) > 0) {
				t.Error(procedure, i, n.Kind, l, e)
			}
		}
	}
	for _, x := range []struct {
		p               api.Program
		procedure, node int
		want            api.Errno
	}{
		{p, -1, first, api.ErrRange}, {p, 2, first, api.ErrRange}, {p, math.MinInt, -1, api.ErrRange}, {p, math.MaxInt, -1, api.ErrRange}, {api.Program{}, 0, 0, api.ErrRange},
		{p, 0, -1, api.ErrNotFound}, {p, 0, tree.Count(p.Tree), api.ErrNotFound}, {p, 0, math.MinInt, api.ErrNotFound}, {p, 1, math.MaxInt, api.ErrNotFound},
	} {
		if l, e := ranges.Grows(x.p, x.procedure, x.node); e != x.want || len(l) > 0 {
			t.Error(x.procedure, x.node, l, e)
		}
	}
}

// Arguments are not modified, and results are newly allocated.

func TestResultsAreNew(t *testing.T) {
	s := "proc g(var a: int) { } proc f(x: int, c: bool) { while c and x < 3 { x = x + 1; g(x); } for i = 0 to 1 { x = x + 1; } }"
	p, again := checked(t, s), checked(t, s)
	l := store(to(0, 2), to(0, 1), to(-4, 3))
	number := numberOf(t, p, s, "c and x < 3", api.NodeBinary)
	for _, truth := range []bool{false, true} {
		r, ok, e := ranges.Restrict(p, number, 3, truth, l)
		if !ok || e != api.OK {
			t.Fatal(r, ok, e)
		}
		clear(r)
	}
	if r, _, _ := ranges.Restrict(p, numberOf(t, p, s, "c", api.NodeName), 3, true, l); len(r) != 3 || &r[0] == &l[0] {
		t.Error(r)
	}
	if !slices.Equal(l, store(to(0, 2), to(0, 1), to(-4, 3))) {
		t.Error(l)
	}
	a, _ := ranges.Analyze(p, 1, 3, l[:2])
	b, _ := ranges.Analyze(p, 1, 3, l[:2])
	for _, x := range a {
		_ = append(x, to(7, 7))
	}
	if !same(a, b) || !slices.Equal(l, store(to(0, 2), to(0, 1), to(-4, 3))) {
		t.Error(a, b, l)
	}
	for i, x := range a {
		for k := range x {
			x[k] = to(9, 9)
		}
		if !same(a[i+1:], b[i+1:]) {
			t.Error(i, a, b)
		}
	}
	if !reflect.DeepEqual(p, again) || !slices.Equal(l, store(to(0, 2), to(0, 1), to(-4, 3))) {
		t.Error(p, l)
	}
}

func TestAnalyzeSlowGrowth(t *testing.T) {
	// Each loop goes through all ints below 99, again for each step of those around it.
	name := func(i int) string { return "z" + string(rune('a'+i/26)) + string(rune('a'+i%26)) }
	s := "proc f(){"
	for i := range 58 {
		s += "var " + name(i) + "=0;"
	}
	for i := range 58 {
		s += "while " + name(i) + "<99{" + name(i) + "=" + name(i) + "+1;"
	}
	p := checked(t, s+strings.Repeat("}", 59))
	l, e := ranges.Analyze(p, 0, 8, nil)
	if e != api.OK || len(l) != 2+3*58 {
		t.Fatal(len(l), e)
	}
	for i, r := range l[1] {
		if i == 0 && r != to(99, 99) || i > 0 && r != to(0, 99) {
			t.Error(i, r)
		}
	}
	if f, _ := flow.Of(p, 0); len(f.Points) != len(l) {
		t.Error(len(f.Points))
	}
}
