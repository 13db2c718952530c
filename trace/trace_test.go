package trace_test

import (
	"math"
	"reflect"
	"slices"
	"strconv"
	"strings"
	"testing"

	"assessor/api"
	"assessor/checker"
	"assessor/interpreter"
	"assessor/trace"
	"assessor/tree"
)

var bounds = api.Bounds{Width: 4, Loops: 3}

func checked(t *testing.T, s string) api.Program {
	t.Helper()
	p, l, e := checker.Check(s)
	if len(l) > 0 || e != api.OK {
		t.Fatal(s, l, e)
	}
	return p
}

// text returns the bytes of the node with a number, without its block.
func text(s string, p api.Program, number int) string {
	path, ok := tree.Path(p.Tree, number)
	if !ok {
		return strconv.Itoa(number)
	}
	n, _ := tree.Get(p.Tree, path...)
	front, _, _ := strings.Cut(s[n.At:n.End], " {")
	return strings.TrimSuffix(front, ";")
}

// write returns an event in words, with a dot for each level of its depth.
func write(s string, p api.Program, e api.Event) string {
	at := text(s, p, e.Node)
	n := strconv.Itoa
	named, words := api.Event{Kind: e.Kind, Node: e.Node, Depth: e.Depth, Value: e.Value}, ""
	switch e.Kind {
	case api.EventEnter:
		words = "enter " + p.Procedures[e.Value].Name + " by " + at
	case api.EventLeave:
		words = "leave " + p.Procedures[e.Value].Name + " by " + at
	case api.EventStatement:
		named.Value = 0
		words = "do " + at
	case api.EventTest:
		words = "test " + at + " is " + n(e.Value)
	case api.EventSet:
		named = e
		words = "set " + n(e.Slot) + " from " + n(e.Old) + " to " + n(e.Value) + " by " + at
	case api.EventFault:
		words = []string{"none", "divide", "index", "assert", "return", "limit"}[e.Value] + " at " + at
	case api.EventEnd:
		named.Value = 0
		words = "end " + at
	}
	if e != named {
		words += ", and more"
	}
	return strings.Repeat(".", e.Depth) + words
}

func writeAll(s string, p api.Program, l []api.Event) []string {
	var all []string
	for _, e := range l {
		all = append(all, write(s, p, e))
	}
	return all
}

// inner returns what happens in the procedure f between its beginning and its end.
func inner(t *testing.T, s string, input ...int) string {
	t.Helper()
	p := checked(t, s)
	l, e := trace.Events(p, "f", bounds, input)
	if e != api.OK || len(l) < 2 {
		t.Fatal(s, input, l, e)
	}
	all := writeAll(s, p, l)
	if all[0] != "enter f by -1" {
		t.Error(s, all)
	}
	all = all[1:]
	if last := len(all) - 1; all[last] == "end -1" {
		if all[last-1] != "leave f by -1" {
			t.Error(s, all)
		}
		all = all[:last-1]
	}
	return strings.Join(all, "; ")
}

// P13.1

func TestEventsOfTheExample(t *testing.T) {
	p := checked(t, "proc f(x: int) { if x > 0 { x = 0; } }")
	l, e := trace.Events(p, "f", bounds, []int{1})
	want := []api.Event{
		{Kind: api.EventEnter, Node: -1}, {Kind: api.EventStatement, Node: 7}, {Kind: api.EventTest, Node: 8, Value: 1}, {Kind: api.EventStatement, Node: 12},
		{Kind: api.EventSet, Node: 12, Old: 1}, {Kind: api.EventLeave, Node: -1}, {Kind: api.EventEnd, Node: -1},
	}
	if !slices.Equal(l, want) || e != api.OK {
		t.Error(l, e)
	}
}

func TestEventsOfStatements(t *testing.T) {
	for _, c := range []struct {
		s, want string
		input   []int
	}{
		{"proc f() { }", "", nil},
		{"proc f(x: int) { x = 2; }", "do x = 2; set 0 from 5 to 2 by x = 2", []int{5}},
		{"proc f(x: int) { x = 2; }", "do x = 2", []int{2}},
		{"proc f(x: int) { var y = x; }", "do var y = x; set 1 from 0 to 5 by var y = x", []int{5}},
		{"proc f(x: int) { var y: int = 0; }", "do var y: int = 0", []int{5}},
		{"proc f(a: int[3]) { a = [4, 2, 6]; }", "do a = [4, 2, 6]; set 0 from 1 to 4 by a = [4, 2, 6]; set 2 from 3 to 6 by a = [4, 2, 6]", []int{1, 2, 3}},
		{"proc f(a: int[2]) { var b = [a[1], a[0]]; b = a; }", "do var b = [a[1], a[0]]; set 2 from 0 to 2 by var b = [a[1], a[0]]; set 3 from 0 to 1 by var b = [a[1], a[0]]; do b = a; set 2 from 2 to 1 by b = a; set 3 from 1 to 2 by b = a", []int{1, 2}},
		{"proc f(x: int, a: int[3]) { a[x] = 7; a[x - 1] = 2; }", "do a[x] = 7; set 3 from 3 to 7 by a[x] = 7; do a[x - 1] = 2", []int{2, 1, 2, 3}},
		{"proc f(x: int, a: int[2]) { a[x] = a[0] / 1; }", "do a[x] = a[0] / 1; index at a[x]", []int{2, 1, 2}},
		{"proc f(x: int, a: int[2]) { a[x] = x; }", "do a[x] = x; index at a[x]", []int{-1, 1, 2}},
		{"proc f(x: int, a: int[2]) { a[1 / x] = a[5]; }", "do a[1 / x] = a[5]; divide at 1 / x", []int{0, 1, 2}},
		{"proc f(x: int, a: int[2]) { a[7] = 1 / x; }", "do a[7] = 1 / x; divide at 1 / x", []int{0, 1, 2}},
		{"record q { n: int } record r { k: int, m: bool } proc f(x: int, p: r) { p.m = p.k == x; p.k = x; p = r(1, true); }", "do p.m = p.k == x; set 2 from 1 to 0 by p.m = p.k == x; do p.k = x; set 1 from 4 to 3 by p.k = x; do p = r(1, true); set 1 from 3 to 1 by p = r(1, true); set 2 from 0 to 1 by p = r(1, true)", []int{3, 4, 1}},
		{"proc f(x: int) { if x < 0 { x = 1; } else if x == 0 { x = 2; } else { x = 3; } x = 4; }", "do if x < 0; test x < 0 is 1; do x = 1; set 0 from -1 to 1 by x = 1; do x = 4; set 0 from 1 to 4 by x = 4", []int{-1}},
		{"proc f(x: int) { if x < 0 { x = 1; } else if x == 0 { x = 2; } else { x = 3; } x = 4; }", "do if x < 0; test x < 0 is 0; do if x == 0; test x == 0 is 1; do x = 2; set 0 from 0 to 2 by x = 2; do x = 4; set 0 from 2 to 4 by x = 4", []int{0}},
		{"proc f(x: int) { if x < 0 { x = 1; } else if x == 0 { x = 2; } else { x = 3; } x = 4; }", "do if x < 0; test x < 0 is 0; do if x == 0; test x == 0 is 0; do x = 3; set 0 from 1 to 3 by x = 3; do x = 4; set 0 from 3 to 4 by x = 4", []int{1}},
		{"proc f(x: int) { if x < 0 { } }", "do if x < 0; test x < 0 is 0", []int{1}},
		{"proc f(x: int) { if x / 0 == 1 { } }", "do if x / 0 == 1; divide at x / 0", []int{1}},
		{"proc f(b: bool) { if b { return; } assert b; }", "do if b; test b is 1; do return", []int{1}},
		{"proc f(b: bool) { if b { return; } assert b; }", "do if b; test b is 0; do assert b; test b is 0; assert at assert b", []int{0}},
		{"proc f(b: bool) { assert b; }", "do assert b; test b is 1", []int{1}},
		{"proc f(a: int[2]) { assert a[2] > 0; }", "do assert a[2] > 0; index at a[2]", []int{0, 1}},
		{"proc f(x: int): int { return x + 1; }", "do return x + 1", []int{1}},
		{"proc f(x: int): int { return x % 0; }", "do return x % 0; divide at x % 0", []int{1}},
		{"proc f(x: int): int { if x > 0 { return x; } }", "do if x > 0; test x > 0 is 0; return at proc f(x: int): int", []int{0}},
		{"proc f(): int { }", "return at proc f(): int", nil},
	} {
		if got := inner(t, c.s, c.input...); got != c.want {
			t.Errorf("%s\n%s instead of\n%s", c.s, got, c.want)
		}
	}
}

func TestEventsOfLoops(t *testing.T) {
	for _, c := range []struct {
		s, want string
		input   []int
	}{
		{"proc f(x: int) { while x > 0 { x = x - 1; } }", "do while x > 0; test x > 0 is 0", []int{0}},
		{"proc f(x: int) { while x > 0 { x = x - 1; } }", "do while x > 0; test x > 0 is 1; do x = x - 1; set 0 from 2 to 1 by x = x - 1; test x > 0 is 1; do x = x - 1; set 0 from 1 to 0 by x = x - 1; test x > 0 is 0", []int{2}},
		{"proc f(x: int) { while x > 0 { } }", "do while x > 0; test x > 0 is 1; test x > 0 is 1; test x > 0 is 1; test x > 0 is 1; limit at while x > 0", []int{1}},
		{"proc f(x: int) { while 2 / x > 0 { x = x - 1; } }", "do while 2 / x > 0; test 2 / x > 0 is 1; do x = x - 1; set 0 from 1 to 0 by x = x - 1; divide at 2 / x", []int{1}},
		{"proc f(x: int): int { while true { return x; } }", "do while true; test true is 1; do return x", []int{1}},
		{"proc f(x: int) { for i = x to 2 { } }", "do for i = x to 2; test for i = x to 2 is 1; set 1 from 0 to 1 by for i = x to 2; test for i = x to 2 is 1; set 1 from 1 to 2 by for i = x to 2; test for i = x to 2 is 0", []int{1}},
		{"proc f(x: int) { for i = x to 2 { } }", "do for i = x to 2; test for i = x to 2 is 0", []int{3}},
		{"proc f(x: int) { for i = 0 to x { } }", "do for i = 0 to x; test for i = 0 to x is 1; test for i = 0 to x is 0", []int{0}},
		{"proc f(x: int) { for i = 5 to x { } }", "do for i = 5 to x; test for i = 5 to x is 1; set 1 from 0 to 5 by for i = 5 to x; test for i = 5 to x is 1; set 1 from 5 to 6 by for i = 5 to x; test for i = 5 to x is 1; set 1 from 6 to 7 by for i = 5 to x; test for i = 5 to x is 0", []int{7}},
		{"proc f(x: int) { for i = 4 to x { } }", "do for i = 4 to x; test for i = 4 to x is 1; set 1 from 0 to 4 by for i = 4 to x; test for i = 4 to x is 1; set 1 from 4 to 5 by for i = 4 to x; test for i = 4 to x is 1; set 1 from 5 to 6 by for i = 4 to x; test for i = 4 to x is 1; limit at for i = 4 to x", []int{7}},
		{"proc f(x: int) { for i = 1 / x to 2 / 0 { } }", "do for i = 1 / x to 2 / 0; divide at 1 / x", []int{0}},
		{"proc f(x: int) { for i = 1 / x to 2 / 0 { } }", "do for i = 1 / x to 2 / 0; divide at 2 / 0", []int{1}},
		{"proc f(x: int) { for i = 0 to 1 { var y = i; x = y; } }", "do for i = 0 to 1; test for i = 0 to 1 is 1; do var y = i; do x = y; set 0 from 5 to 0 by x = y; test for i = 0 to 1 is 1; set 1 from 0 to 1 by for i = 0 to 1; do var y = i; set 2 from 0 to 1 by var y = i; do x = y; set 0 from 0 to 1 by x = y; test for i = 0 to 1 is 0", []int{5}},
		{"proc f(x: int) { for i = 2 to x { for j = i to 2 { } return; } }", "do for i = 2 to x; test for i = 2 to x is 1; set 1 from 0 to 2 by for i = 2 to x; do for j = i to 2; test for j = i to 2 is 1; set 2 from 0 to 2 by for j = i to 2; test for j = i to 2 is 0; do return", []int{5}},
	} {
		if got := inner(t, c.s, c.input...); got != c.want {
			t.Errorf("%s\n%s instead of\n%s", c.s, got, c.want)
		}
	}
	// Without any rounds, there is still the test for the first one.
	s := "proc f(x: int) { for i = 0 to x { x = 9; } }"
	p := checked(t, s)
	l, _ := trace.Events(p, "f", api.Bounds{Width: 4}, []int{0})
	if got := strings.Join(writeAll(s, p, l), "; "); got != "enter f by -1; do for i = 0 to x; test for i = 0 to x is 1; limit at for i = 0 to x" {
		t.Error(got)
	}
}

func TestEventsOfTests(t *testing.T) {
	for _, c := range []struct {
		s, want string
		input   []int
	}{
		{"a = b and c;", "test b is 1; test c is 0; set 0 from 1 to 0", []int{1, 1, 0}}, {"a = b and c;", "test b is 0", []int{0, 0, 1}}, {"a = b or c;", "test b is 1", []int{1, 1, 0}}, {"a = b or c;", "test b is 0; test c is 1; set 0 from 0 to 1", []int{0, 0, 1}},
		{"a = not b;", "test b is 1; set 0 from 1 to 0", []int{1, 1, 1}}, {"a = not not b;", "test b is 1; test not b is 0", []int{1, 1, 1}}, {"a = not (b and c);", "test b is 1; test c is 0; test (b and c) is 0", []int{1, 1, 0}},
		{"a = a or b and not c;", "test a is 0; test b is 1; test c is 0; test not c is 1; test b and not c is 1; set 0 from 0 to 1", []int{0, 1, 0}}, {"a = a and b or c;", "test a is 1; test b is 0; test a and b is 0; test c is 1", []int{1, 0, 1}}, {"a = a and b and c;", "test a is 1; test b is 1; test a and b is 1; test c is 1", []int{1, 1, 1}}, {"a = a and b and c;", "test a is 0; test a and b is 0", []int{0, 1, 1}},
		{"a = (b and c) == (a or c);", "test b is 0; test a is 0; test c is 1", []int{0, 0, 1}}, {"a = (not b) != c;", "test b is 0; set 0 from 1 to 0", []int{1, 0, 1}}, {"a = b;", "set 0 from 1 to 0", []int{1, 0, 1}}, {"a = (b == c) == true;", "", []int{0, 0, 1}},
		{"a = b and 1 / 0 == 1;", "test b is 1; divide at 1 / 0", []int{0, 1, 0}}, {"a = b and 1 / 0 == 1;", "test b is 0", []int{0, 0, 0}}, {"a = 1 / 0 == 1 or b;", "divide at 1 / 0", []int{0, 0, 0}}, {"a = not (1 / 0 == 1);", "divide at 1 / 0", []int{0, 0, 0}}, {"a = (b or c) == (1 / 0 == 1);", "test b is 0; test c is 0; divide at 1 / 0", []int{0, 0, 0}}, {"a = (1 / 0 == 1) == (b or c);", "divide at 1 / 0", []int{0, 0, 0}},
		{"assert b and c;", "test b is 1; test c is 1; test b and c is 1", []int{1, 1, 1}}, {"assert not b;", "test b is 1; test not b is 0; assert at assert not b", []int{1, 1, 1}}, {"while not (b or c) { b = true; }", "test b is 0; test c is 0; test (b or c) is 0; test not (b or c) is 1; do b = true; set 1 from 0 to 1 by b = true; test b is 1; test (b or c) is 1; test not (b or c) is 0", []int{0, 0, 0}},
		{"if b and c { }", "test b is 0; test b and c is 0", []int{1, 0, 1}},
	} {
		s := "proc f(a: bool, b: bool, c: bool) { " + c.s + " }"
		front, _, _ := strings.Cut(strings.TrimSuffix(c.s, ";"), " {")
		want := strings.TrimSuffix("do "+front+"; "+c.want, "; ")
		var all []string
		for _, x := range strings.Split(want, "; ") {
			// Parentheses belong to the node around them.
			if strings.HasPrefix(x, "test (") {
				x = strings.Replace(strings.Replace(x, "(", "", 1), ")", "", 1)
			}
			if strings.HasPrefix(x, "set 0") {
				x += " by " + front
			}
			all = append(all, x)
		}
		if got := inner(t, s, c.input...); got != strings.Join(all, "; ") {
			t.Errorf("%s\n%s instead of\n%s", c.s, got, strings.Join(all, "; "))
		}
	}
}

func TestEventsOfCalls(t *testing.T) {
	const g = " proc g(y: int, z: int): int { y = z; return y; }"
	for _, c := range []struct {
		s, want string
		input   []int
	}{
		{"proc f(x: int) { x = g(x, 2); }" + g, "do x = g(x, 2); .enter g by g(x, 2); .do y = z; .set 0 from 5 to 2 by y = z; .do return y; .leave g by g(x, 2); set 0 from 5 to 2 by x = g(x, 2)", []int{5}},
		{"proc f(x: int) { x = g(2, g(3, 3)); }" + g, "do x = g(2, g(3, 3)); .enter g by g(3, 3); .do y = z; .do return y; .leave g by g(3, 3); .enter g by g(2, g(3, 3)); .do y = z; .set 0 from 2 to 3 by y = z; .do return y; .leave g by g(2, g(3, 3)); set 0 from 5 to 3 by x = g(2, g(3, 3))", []int{5}},
		{"proc f(x: int) { x = 1 + h(x) * 2; } proc h(x: int): int { return 6 / x; }", "do x = 1 + h(x) * 2; .enter h by h(x); .do return 6 / x; .leave h by h(x); set 0 from 3 to 5 by x = 1 + h(x) * 2", []int{3}},
		{"proc f(x: int) { x = 1 + h(x) * 2; } proc h(x: int): int { return 6 / x; }", "do x = 1 + h(x) * 2; .enter h by h(x); .do return 6 / x; .divide at 6 / x", []int{0}},
		{"proc f(x: int) { x = 1 / 0 + h(x); } proc h(x: int): int { return 6 / x; }", "do x = 1 / 0 + h(x); divide at 1 / 0", []int{1}},
		{"proc f(x: int) { x = h(x) + 1 / 0; } proc h(x: int): int { return 6 / x; }", "do x = h(x) + 1 / 0; .enter h by h(x); .do return 6 / x; .leave h by h(x); divide at 1 / 0", []int{1}},
		{"proc f(x: int) { x = x / h(x); } proc h(x: int): int { return x - 1; }", "do x = x / h(x); .enter h by h(x); .do return x - 1; .leave h by h(x); divide at x / h(x)", []int{1}},
		{"proc f(x: int) { x = h(x); } proc h(x: int): int { return k(x); } proc k(x: int): int { assert x > 0; }", "do x = h(x); .enter h by h(x); .do return k(x); ..enter k by k(x); ..do assert x > 0; ..test x > 0 is 1; ..return at proc k(x: int): int", []int{1}},
		{"proc f(x: int) { x = h(x); } proc h(x: int): int { return k(x); } proc k(x: int): int { assert x > 0; }", "do x = h(x); .enter h by h(x); .do return k(x); ..enter k by k(x); ..do assert x > 0; ..test x > 0 is 0; ..assert at assert x > 0", []int{0}},
		{"proc f(x: int) { if h(x) and not h(1) { } } proc h(x: int): bool { return x > 2; }", "do if h(x) and not h(1); .enter h by h(x); .do return x > 2; .leave h by h(x); test h(x) is 1; .enter h by h(1); .do return x > 2; .leave h by h(1); test h(1) is 0; test not h(1) is 1; test h(x) and not h(1) is 1", []int{3}},
		{"proc f(a: int[2]) { a[h(0)] = h(1); } proc h(x: int): int { return x; }", "do a[h(0)] = h(1); .enter h by h(0); .do return x; .leave h by h(0); .enter h by h(1); .do return x; .leave h by h(1); set 0 from 5 to 1 by a[h(0)] = h(1)", []int{5, 6}},
		{"proc f(a: int[2]) { a = [a[h(1)], h(2)]; } proc h(x: int): int { return x; }", "do a = [a[h(1)], h(2)]; .enter h by h(1); .do return x; .leave h by h(1); .enter h by h(2); .do return x; .leave h by h(2); set 0 from 5 to 6 by a = [a[h(1)], h(2)]; set 1 from 6 to 2 by a = [a[h(1)], h(2)]", []int{5, 6}},
		{"proc f(a: int[2]) { a[0] = a[h(2)]; } proc h(x: int): int { return x; }", "do a[0] = a[h(2)]; .enter h by h(2); .do return x; .leave h by h(2); index at a[h(2)]", []int{5, 6}},
		{"record r { k: int, m: bool } proc f(p: r) { p = r(h(p.k), not p.m); } proc h(x: int): int { return -x; }", "do p = r(h(p.k), not p.m); .enter h by h(p.k); .do return -x; .leave h by h(p.k); test p.m is 1; set 0 from 5 to -5 by p = r(h(p.k), not p.m); set 1 from 1 to 0 by p = r(h(p.k), not p.m)", []int{5, 1}},
		{"proc f(x: int) { x = -h(x); } proc h(x: int): int { return x; }", "do x = -h(x); .enter h by h(x); .do return x; .leave h by h(x); set 0 from 2 to -2 by x = -h(x)", []int{2}},
		{"proc f(x: int) { for i = h(0) to h(1) { } } proc h(x: int): int { return x; }", "do for i = h(0) to h(1); .enter h by h(0); .do return x; .leave h by h(0); .enter h by h(1); .do return x; .leave h by h(1); test for i = h(0) to h(1) is 1; test for i = h(0) to h(1) is 1; set 1 from 0 to 1 by for i = h(0) to h(1); test for i = h(0) to h(1) is 0", []int{2}},
		{"proc f(x: int) { h(); x = 1; } proc h() { }", "do h(); .enter h by h(); .leave h by h(); do x = 1; set 0 from 2 to 1 by x = 1", []int{2}},
		{"proc f(x: int, y: int) { h(y, x); } proc h(var a: int, var b: int) { var c = a; a = b; b = c; }", "do h(y, x); .enter h by h(y, x); .do var c = a; .set 2 from 0 to 2 by var c = a; .do a = b; .set 0 from 2 to 1 by a = b; .do b = c; .set 1 from 1 to 2 by b = c; .leave h by h(y, x); set 1 from 2 to 1 by h(y, x); set 0 from 1 to 2 by h(y, x)", []int{1, 2}},
		{"proc f(x: int, y: int) { h(x, y); } proc h(a: int, var b: int) { a = 7; b = b; }", "do h(x, y); .enter h by h(x, y); .do a = 7; .set 0 from 1 to 7 by a = 7; .do b = b; .leave h by h(x, y)", []int{1, 2}},
		{"proc f(a: int[3]) { h(a); } proc h(var b: int[3]) { b = [4, 1, 0]; return; }", "do h(a); .enter h by h(a); .do b = [4, 1, 0]; .set 0 from 0 to 4 by b = [4, 1, 0]; .set 2 from 2 to 0 by b = [4, 1, 0]; .do return; .leave h by h(a); set 0 from 0 to 4 by h(a); set 2 from 2 to 0 by h(a)", []int{0, 1, 2}},
		{"proc f(x: int) { h(x, k(x)); } proc h(var a: int, b: int) { a = b; assert a < 5; } proc k(x: int): int { return x + 1; }", "do h(x, k(x)); .enter k by k(x); .do return x + 1; .leave k by k(x); .enter h by h(x, k(x)); .do a = b; .set 0 from 4 to 5 by a = b; .do assert a < 5; .test a < 5 is 0; .assert at assert a < 5", []int{4}},
	} {
		if got := inner(t, c.s, c.input...); got != c.want {
			t.Errorf("%s\n%s instead of\n%s", c.s, got, c.want)
		}
	}
}

// costly returns a procedure of the cost of 1 + 8 * (1 + 254 + n) for 8 rounds.
func costly(n int) string {
	return "proc f(b: bool) { for i = 0 to 7 { " + strings.Repeat("b = b; ", 254+n) + "} }"
}

func TestErrorsAreThoseOfTheInterpreter(t *testing.T) {
	small := checked(t, "proc g(x: int, b: bool): int { return x; } proc f(b: bool) { }")
	large := checked(t, costly(1))
	found := map[api.Errno]int{}
	for _, p := range []api.Program{small, large, {}} {
		for _, entry := range []string{"f", "g", "", "h"} {
			for _, b := range []api.Bounds{bounds, {Width: 4, Loops: 8}, {}, {Width: 1, Loops: 3}, {Width: 9}, {Width: 4, Loops: -1}, {Width: 4, Loops: 9}} {
				for _, input := range [][]int{nil, {1}, {2}, {1, 1}, {1, 2}, {8, 1}, {1, 1, 1}} {
					_, _, want := interpreter.Run(p, entry, b, input)
					l, e := trace.Events(p, entry, b, input)
					s, f := trace.New(p, entry, b, input)
					if e != want || f != want || want != api.OK && (len(l) > 0 || s != nil) || want == api.OK && (len(l) == 0 || s == nil) {
						t.Error(entry, b, input, l, e, f, want)
					}
					found[e]++
				}
			}
		}
	}
	for _, e := range []api.Errno{api.OK, api.ErrArg, api.ErrNotFound, api.ErrTooLarge, api.ErrRange} {
		if found[e] == 0 {
			t.Error(e)
		}
	}
}

func TestLongRuns(t *testing.T) {
	p := checked(t, costly(0))
	l, e := trace.Events(p, "f", api.Bounds{Width: 4, Loops: 8}, []int{1})
	if want := 2 + 8*254 + 9 + 7 + 2; len(l) != want || e != api.OK {
		t.Error(len(l), want, e)
	}
}

// P13.2 to P13.4

const stepped = "proc f(x: int, a: int[2]): int { var y = g(x) + 1; while y > x or y == 2 { h(a, y); y = y - 1; } return a[1] / y; } proc g(x: int): int { return x * 2; } proc h(var a: int[2], i: int) { a[i - 2] = 7; }"

// frame is written as the procedure, the call and the slots.
func frames(s string, p api.Program, l []api.Frame) string {
	var words []string
	for _, f := range l {
		x := p.Procedures[f.Procedure].Name + " by " + text(s, p, f.Call) + ":"
		for _, n := range f.Slots {
			x += " " + strconv.Itoa(n)
		}
		words = append(words, x)
	}
	return strings.Join(words, ", ")
}

func TestStepper(t *testing.T) {
	s := stepped
	p := checked(t, s)
	l, e := trace.New(p, "f", bounds, []int{1, 3, 4})
	if e != api.OK {
		t.Fatal(e)
	}
	want := []string{
		"", "", // in front of the first event
		"enter f by -1", "f by -1: 1 3 4 0",
		"do var y = g(x) + 1", "f by -1: 1 3 4 0",
		".enter g by g(x)", "f by -1: 1 3 4 0, g by g(x): 1",
		".do return x * 2", "f by -1: 1 3 4 0, g by g(x): 1",
		".leave g by g(x)", "f by -1: 1 3 4 0",
		"set 3 from 0 to 3 by var y = g(x) + 1", "f by -1: 1 3 4 3",
		"do while y > x or y == 2", "f by -1: 1 3 4 3",
		"test y > x is 1", "f by -1: 1 3 4 3",
		"test y > x or y == 2 is 1", "f by -1: 1 3 4 3",
		"do h(a, y)", "f by -1: 1 3 4 3",
		".enter h by h(a, y)", "f by -1: 1 3 4 3, h by h(a, y): 3 4 3",
		".do a[i - 2] = 7", "f by -1: 1 3 4 3, h by h(a, y): 3 4 3",
		".set 1 from 4 to 7 by a[i - 2] = 7", "f by -1: 1 3 4 3, h by h(a, y): 3 7 3",
		".leave h by h(a, y)", "f by -1: 1 3 4 3",
		"set 2 from 4 to 7 by h(a, y)", "f by -1: 1 3 7 3",
		"do y = y - 1", "f by -1: 1 3 7 3",
		"set 3 from 3 to 2 by y = y - 1", "f by -1: 1 3 7 2",
		"test y > x is 1", "f by -1: 1 3 7 2",
		"test y > x or y == 2 is 1", "f by -1: 1 3 7 2",
		"do h(a, y)", "f by -1: 1 3 7 2",
		".enter h by h(a, y)", "f by -1: 1 3 7 2, h by h(a, y): 3 7 2",
		".do a[i - 2] = 7", "f by -1: 1 3 7 2, h by h(a, y): 3 7 2",
		".set 0 from 3 to 7 by a[i - 2] = 7", "f by -1: 1 3 7 2, h by h(a, y): 7 7 2",
		".leave h by h(a, y)", "f by -1: 1 3 7 2",
		"set 1 from 3 to 7 by h(a, y)", "f by -1: 1 7 7 2",
		"do y = y - 1", "f by -1: 1 7 7 2",
		"set 3 from 2 to 1 by y = y - 1", "f by -1: 1 7 7 1",
		"test y > x is 0", "f by -1: 1 7 7 1",
		"test y == 2 is 0", "f by -1: 1 7 7 1",
		"test y > x or y == 2 is 0", "f by -1: 1 7 7 1",
		"do return a[1] / y", "f by -1: 1 7 7 1",
		"leave f by -1", "",
		"end -1", "",
	}
	last := len(want)/2 - 1
	check := func(at int) {
		t.Helper()
		if got := frames(s, p, l.Frames()); l.At() != at || got != want[2*at+1] {
			t.Errorf("%d: %d, %s instead of %s", at, l.At(), got, want[2*at+1])
		}
	}
	for range 2 {
		check(0)
		if e, ok := l.Back(); ok || e != (api.Event{}) {
			t.Error(e)
		}
		for at := 1; at <= last; at++ {
			if e, ok := l.Next(); !ok || write(s, p, e) != want[2*at] {
				t.Error(at, write(s, p, e), want[2*at])
			}
			check(at)
		}
		if e, ok := l.Next(); ok || e != (api.Event{}) {
			t.Error(e)
		}
		for at := last; at > 0; at-- {
			check(at)
			if e, ok := l.Back(); !ok || write(s, p, e) != want[2*at] {
				t.Error(at, write(s, p, e), want[2*at])
			}
		}
	}
}

func TestFramesBehindAFault(t *testing.T) {
	s := "proc f(x: int) { x = 2; g(x); } proc g(y: int) { var z = [y, 1]; z[y] = 3; }"
	p := checked(t, s)
	l, _ := trace.New(p, "f", bounds, []int{1})
	for _, ok := l.Next(); ok; _, ok = l.Next() {
	}
	if got := frames(s, p, l.Frames()); got != "f by -1: 2, g by g(x): 2 2 1" {
		t.Error(got)
	}
	if e, ok := l.Back(); !ok || write(s, p, e) != ".index at z[y]" {
		t.Error(e)
	}
	if got := frames(s, p, l.Frames()); got != "f by -1: 2, g by g(x): 2 2 1" {
		t.Error(got)
	}
}

func TestFramesAreNew(t *testing.T) {
	p := checked(t, stepped)
	input := []int{1, 3, 4}
	l, _ := trace.New(p, "f", bounds, input)
	input[0] = 7
	for range 5 {
		l.Next()
	}
	one, two := l.Frames(), l.Frames()
	one[0].Slots[0], one[0].Procedure = 7, 1
	one = append(one[:0], api.Frame{})
	if !reflect.DeepEqual(two, l.Frames()) || two[0].Slots[0] != 1 || len(one) != 1 {
		t.Error(two, l.Frames())
	}
	l.Back()
	l.Next()
	if !reflect.DeepEqual(two, l.Frames()) || !reflect.DeepEqual(p, checked(t, stepped)) {
		t.Error(l.Frames())
	}
}

func TestSeek(t *testing.T) {
	p := checked(t, stepped)
	events, _ := trace.Events(p, "f", bounds, []int{1, 3, 4})
	l, _ := trace.New(p, "f", bounds, []int{1, 3, 4})
	found := 0
	for at := 0; at <= len(events); at++ {
		for node := -2; node <= len(p.Types)+1; node++ {
			for _, back := range []bool{false, true} {
				for l.At() < at {
					l.Next()
				}
				for l.At() > at {
					l.Back()
				}
				want := -1
				for i, e := range events {
					if e.Kind != api.EventStatement || e.Node != node {
						continue
					}
					if back && i < at {
						want = i
					} else if !back && i >= at && want < 0 {
						want = i + 1
					}
				}
				kept := l.Frames()
				ok := l.Seek(node, back)
				if ok != (want >= 0) || !ok && (l.At() != at || !reflect.DeepEqual(kept, l.Frames())) || ok && l.At() != want {
					t.Fatal(at, node, back, ok, l.At(), want)
				}
				if !ok {
					continue
				}
				found++
				// The frames are those that are found step by step.
				other, _ := trace.New(p, "f", bounds, []int{1, 3, 4})
				for other.At() < want {
					other.Next()
				}
				if !reflect.DeepEqual(l.Frames(), other.Frames()) {
					t.Fatal(at, node, back, l.Frames())
				}
			}
		}
	}
	if found < 100 {
		t.Error(found)
	}
	for _, node := range []int{math.MinInt, math.MaxInt} {
		if l.Seek(node, false) || l.Seek(node, true) {
			t.Error(node)
		}
	}
}

// P13.5

func TestWatch(t *testing.T) {
	s := "proc f(x: int, a: int[2]) { var y = 1; a = [x, y]; g(a); x = h(x) + h(y); } proc g(var b: int[2]) { b[1] = 5; b[0] = b[0]; } proc h(x: int): int { x = x + 1; return x; }"
	p := checked(t, s)
	l, _ := trace.Events(p, "f", bounds, []int{3, 6, 6})
	kept := slices.Clone(l)
	for _, c := range []struct {
		procedure, variable int
		want                string
	}{
		{0, 0, "set 0 from 3 to 6 by x = h(x) + h(y)"}, {0, 1, "set 1 from 6 to 3 by a = [x, y]; set 2 from 6 to 1 by a = [x, y]; set 2 from 1 to 5 by g(a)"}, {0, 2, "set 3 from 0 to 1 by var y = 1"}, {1, 0, ".set 1 from 1 to 5 by b[1] = 5"}, {2, 0, ".set 0 from 3 to 4 by x = x + 1; .set 0 from 1 to 2 by x = x + 1"},
		{0, 3, ""}, {0, -1, ""}, {1, 1, ""}, {-1, 0, ""}, {3, 0, ""}, {math.MinInt, math.MaxInt, ""}, {0, math.MaxInt, ""},
	} {
		if got := strings.Join(writeAll(s, p, trace.Watch(p, l, c.procedure, c.variable)), "; "); got != c.want {
			t.Error(c, got)
		}
	}
	if !slices.Equal(l, kept) {
		t.Error(l)
	}
	if w := trace.Watch(api.Program{}, l, 0, 0); len(w) > 0 {
		t.Error(w)
	}
	if w := trace.Watch(p, nil, 0, 0); len(w) > 0 {
		t.Error(w)
	}
}

func TestWatchAnyList(t *testing.T) {
	p := checked(t, "proc f(x: int, a: int[2]) { } proc g(b: bool) { }")
	enter := func(procedure int) api.Event { return api.Event{Kind: api.EventEnter, Value: procedure} }
	leave := api.Event{Kind: api.EventLeave}
	set := func(slot int) api.Event { return api.Event{Kind: api.EventSet, Slot: slot, Value: 9} }
	for i, c := range []struct {
		l    []api.Event
		want int
	}{
		{[]api.Event{set(1)}, 0}, {[]api.Event{enter(0), set(1)}, 1}, {[]api.Event{enter(0), set(0), set(1), set(2), set(3), set(-1)}, 2}, {[]api.Event{enter(1), set(1)}, 0}, {[]api.Event{enter(0), leave, set(1)}, 0}, {[]api.Event{leave, leave, enter(0), set(1)}, 1},
		{[]api.Event{enter(0), enter(1), set(1), leave, set(1)}, 1}, {[]api.Event{enter(1), enter(0), set(1), set(2), leave, set(1)}, 2}, {[]api.Event{enter(-1), set(1)}, 0}, {[]api.Event{enter(77), set(1), leave, enter(0), set(2)}, 1}, {[]api.Event{enter(0), {Kind: api.EventFault}, {Kind: api.EventEnd}, {Kind: -5}, {Kind: 99, Slot: 1}, {Kind: api.EventTest, Slot: 1}, set(1)}, 1},
	} {
		got := trace.Watch(p, c.l, 0, 1)
		if len(got) != c.want || slices.ContainsFunc(got, func(e api.Event) bool { return e != set(1) && e != set(2) }) {
			t.Error(i, got)
		}
	}
	l := []api.Event{enter(0), set(1)}
	l[1].Depth, l[1].Node, l[1].Old = 5, 6, 7
	got := trace.Watch(p, l, 0, 1)
	if len(got) != 1 || got[0] != l[1] {
		t.Error(got)
	}
	got[0].Value = 0
	if l[1].Value != 9 {
		t.Error(l)
	}
}
