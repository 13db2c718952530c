package flow_test

import (
	"math"
	"reflect"
	"slices"
	"strings"
	"testing"

	"assessor/api"
	"assessor/checker"
	"assessor/flow"
	"assessor/tree"
)

// checked returns a program with a text.
func checked(t *testing.T, s string) api.Program {
	t.Helper()
	p, l, e := checker.Check(s)
	if len(l) > 0 || e != api.OK {
		t.Fatal(s, l, e)
	}
	return p
}

// of returns the flow of the last procedure of a text.
func of(t *testing.T, s string) api.Flow {
	t.Helper()
	p := checked(t, s)
	f, e := flow.Of(p, len(p.Procedures)-1)
	if e != api.OK {
		t.Fatal(s, e)
	}
	return f
}

// edges returns a flow with points that lead to others.
func edges(l ...[]int) api.Flow {
	f := api.Flow{}
	for i, next := range l {
		f.Points = append(f.Points, api.Point{Kind: api.PointPlain, Node: 10 * i, Next: next})
	}
	return f
}

// to is a list of points.
func to(l ...int) []int { return l }

// next returns where the points of a flow lead.
func next(f api.Flow) [][]int {
	var l [][]int
	for _, p := range f.Points {
		l = append(l, p.Next)
	}
	return l
}

// same reports whether two lists of lists are equal.
func same(a, b [][]int) bool { return slices.EqualFunc(a, b, slices.Equal[[]int]) }

// P17.1

func TestKindsOfPoints(t *testing.T) {
	s := "record r { a: int, b: bool } proc g(var x: int) { x = 1; } proc f(x: int, l: int[2]): int { " +
		"var y = 1; y = 2; l[0] = y; var q = r(1, true); q.a = 2; g(y); assert y > 0; " +
		"if y == 1 { y = 3; } else if y == 2 { } else { y = 4; } while y > 0 { y = y - 1; } for i = 1 to y { y = i; } return y; }"
	f := of(t, s)
	var nodes []int
	p := checked(t, s)
	number := 0
	var visit func(api.Node)
	visit = func(n api.Node) {
		if n.Kind >= api.NodeVar && n.Kind <= api.NodeDo && number > p.Procedures[1].Node {
			nodes = append(nodes, number)
		}
		number++
		for _, k := range n.Kids {
			visit(k)
		}
	}
	visit(p.Tree)
	kinds := to(api.PointEntry, api.PointExit, api.PointPlain, api.PointPlain, api.PointPlain, api.PointPlain, api.PointPlain, api.PointPlain, api.PointPlain,
		api.PointTest, api.PointPlain, api.PointTest, api.PointPlain, api.PointTest, api.PointPlain, api.PointBound, api.PointStep, api.PointPlain, api.PointReturn)
	want := [][]int{{2}, {}, {3}, {4}, {5}, {6}, {7}, {8}, {9}, {10, 11}, {13}, {13, 12}, {13}, {14, 15}, {13}, {16}, {17, 18}, {16}, {1}}
	if !same(next(f), want) {
		t.Error(next(f))
	}
	at := slices.Insert(nodes, 14, nodes[13])
	for i, x := range f.Points {
		if i < len(kinds) && x.Kind != kinds[i] || i >= 2 && x.Node != at[i-2] || i < 2 && x.Node != -1 {
			t.Error(i, x)
		}
	}
}

func TestEdges(t *testing.T) {
	for _, x := range []struct {
		body string
		want [][]int
	}{
		{"", [][]int{{1}, {}}},
		{"return;", [][]int{{2}, {}, {1}}},
		{"return; return;", [][]int{{2}, {}, {1}, {1}}},
		{"return; x = 1;", [][]int{{2}, {}, {1}, {1}}},
		{"x = 1; x = 2;", [][]int{{2}, {}, {3}, {1}}},
		{"if b { }", [][]int{{2}, {}, {1, 1}}},
		{"if b { } else { }", [][]int{{2}, {}, {1, 1}}},
		{"if b { } x = 1;", [][]int{{2}, {}, {3, 3}, {1}}},
		{"if b { x = 1; }", [][]int{{2}, {}, {3, 1}, {1}}},
		{"if b { x = 1; } x = 2;", [][]int{{2}, {}, {3, 4}, {4}, {1}}},
		{"if b { } else { x = 1; } x = 2;", [][]int{{2}, {}, {4, 3}, {4}, {1}}},
		{"if b { x = 1; x = 2; } else { x = 3; x = 4; } x = 5;", [][]int{{2}, {}, {3, 5}, {4}, {7}, {6}, {7}, {1}}},
		{"if b { return; } else { return; } x = 5;", [][]int{{2}, {}, {3, 4}, {1}, {1}, {1}}},
		{"if b { return; x = 1; } x = 5;", [][]int{{2}, {}, {3, 5}, {1}, {5}, {1}}},
		{"if b { } else if b { } x = 1;", [][]int{{2}, {}, {4, 3}, {4, 4}, {1}}},
		{"if b { x = 1; } else if b { x = 2; } else { x = 3; } x = 4;", [][]int{{2}, {}, {3, 4}, {7}, {5, 6}, {7}, {7}, {1}}},
		{"if b { if b { x = 1; } } else { x = 2; }", [][]int{{2}, {}, {3, 5}, {4, 1}, {1}, {1}}},
		{"while b { }", [][]int{{2}, {}, {2, 1}}},
		{"while b { } x = 1;", [][]int{{2}, {}, {2, 3}, {1}}},
		{"while b { x = 1; x = 2; } x = 3;", [][]int{{2}, {}, {3, 5}, {4}, {2}, {1}}},
		{"while b { return; }", [][]int{{2}, {}, {3, 1}, {1}}},
		{"while b { if b { } }", [][]int{{2}, {}, {3, 1}, {2, 2}}},
		{"while b { if b { x = 1; } else { } }", [][]int{{2}, {}, {3, 1}, {4, 2}, {2}}},
		{"while b { while b { } }", [][]int{{2}, {}, {3, 1}, {3, 2}}},
		{"for i = 1 to x { }", [][]int{{2}, {}, {3}, {3, 1}}},
		{"for i = 1 to x { } x = 1;", [][]int{{2}, {}, {3}, {3, 4}, {1}}},
		{"for i = 1 to x { x = 1; }", [][]int{{2}, {}, {3}, {4, 1}, {3}}},
		{"x = 1; for i = 1 to x { x = 1; } x = 2;", [][]int{{2}, {}, {3}, {4}, {5, 6}, {4}, {1}}},
		{"for i = 1 to x { return; }", [][]int{{2}, {}, {3}, {4, 1}, {1}}},
		{"for i = 1 to x { for j = 1 to i { } }", [][]int{{2}, {}, {3}, {4, 1}, {5}, {5, 3}}},
		{"for i = 1 to x { while b { } } x = 1;", [][]int{{2}, {}, {3}, {4, 5}, {4, 3}, {1}}},
		{"while b { for i = 1 to x { if b { } } }", [][]int{{2}, {}, {3, 1}, {4}, {5, 2}, {4, 4}}},
	} {
		s := "proc f(x: int, b: bool) { " + x.body + " }"
		if f := of(t, s); !same(next(f), x.want) {
			t.Errorf("%s\n%v instead of %v", s, next(f), x.want)
		}
	}
}

func TestExampleOfFlow(t *testing.T) {
	f := of(t, "proc f(x: int) { while x < 3 { x = x + 1; } }")
	want := api.Flow{Points: []api.Point{{Kind: api.PointEntry, Node: -1, Next: to(2)}, {Kind: api.PointExit, Node: -1}, {Kind: api.PointTest, Node: 7, Next: to(3, 1)}, {Kind: api.PointPlain, Node: 12, Next: to(2)}}}
	if !same(next(f), next(want)) {
		t.Error(f)
	}
	for i, p := range want.Points {
		if f.Points[i].Kind != p.Kind || f.Points[i].Node != p.Node {
			t.Error(i, f.Points[i])
		}
	}
	if b := flow.Blocks(f); !same(b, [][]int{{0}, {1}, {2}, {3}}) {
		t.Error(b)
	}
}

func TestProcedureOfFlow(t *testing.T) {
	p := checked(t, "proc f() { } record r { a: int } proc g(x: int) { x = 1; } proc h() { return; return; }")
	for i, want := range [][][]int{{{1}, {}}, {{2}, {}, {1}}, {{2}, {}, {1}, {1}}} {
		if f, e := flow.Of(p, i); !same(next(f), want) || e != api.OK {
			t.Error(i, f, e)
		}
	}
	for _, i := range []int{-1, 3, math.MinInt, math.MaxInt} {
		if f, e := flow.Of(p, i); len(f.Points) > 0 || e != api.ErrRange {
			t.Error(i, f, e)
		}
	}
	if f, e := flow.Of(api.Program{}, 0); len(f.Points) > 0 || e != api.ErrRange {
		t.Error(f, e)
	}
}

func TestFlowOfManyStatements(t *testing.T) {
	p := checked(t, "proc g(){}proc f(){"+strings.Repeat("g();", 1014)+"}")
	f, e := flow.Of(p, 1)
	if tree.Count(p.Tree) != api.MaxNodes-1 || len(f.Points) != 1016 || e != api.OK {
		t.Fatal(tree.Count(p.Tree), len(f.Points), e)
	}
	for i, x := range f.Points[2:] {
		if want := (i+3)%1016 + (i+3)/1016; !slices.Equal(x.Next, to(want)) || x.Node != 9+i {
			t.Fatal(i, x)
		}
	}
}

func TestPoints(t *testing.T) {
	f := of(t, "proc f(x: int) { x = 1; for i = 1 to x { } return; }")
	at := map[int][]int{7: {2}, 10: {3, 4}, 14: {5}}
	for node := -3; node < 20; node++ {
		if l := flow.Points(f, node); !slices.Equal(l, at[node]) {
			t.Error(node, l)
		}
	}
	for _, node := range []int{math.MinInt, math.MaxInt} {
		if l := flow.Points(f, node); len(l) > 0 {
			t.Error(node, l)
		}
	}
	g := edges(to(2), nil, to(3), to(1))
	g.Points[0].Node, g.Points[1].Node, g.Points[2].Node, g.Points[3].Node = 7, 3, 7, -4
	for node, want := range map[int][]int{7: {0, 2}, 3: {1}, -4: nil, 0: nil} {
		if l := flow.Points(g, node); !slices.Equal(l, want) {
			t.Error(node, l)
		}
	}
}

// P17.2, P17.3

func TestBeforeAndReachableAndBlocks(t *testing.T) {
	for _, x := range []struct {
		f         api.Flow
		before    [][]int
		reachable string
		blocks    [][]int
	}{
		{edges(nil, nil), [][]int{{}, {}}, "10", [][]int{{0}}},
		{edges(to(1), nil), [][]int{{}, {0}}, "11", [][]int{{0}, {1}}},
		{edges(to(1, 1), nil), [][]int{{}, {0}}, "11", [][]int{{0}, {1}}},
		{edges(to(2), nil, to(3), to(1)), [][]int{{}, {3}, {0}, {2}}, "1111", [][]int{{0, 2, 3}, {1}}},
		{edges(to(3), nil, to(1), to(2)), [][]int{{}, {2}, {3}, {0}}, "1111", [][]int{{0, 3, 2}, {1}}},
		{edges(to(2, 2), nil, to(1)), [][]int{{}, {2}, {0}}, "111", [][]int{{0}, {1}, {2}}},
		{edges(to(2), nil, to(3, 4), to(4), to(1)), [][]int{{}, {4}, {0}, {2}, {2, 3}}, "11111", [][]int{{0, 2}, {1}, {3}, {4}}},
		// An edge from a point that cannot be reached does not count.
		{edges(to(2), nil, to(3), to(1), to(3)), [][]int{{}, {3}, {0}, {2, 4}, {}}, "11110", [][]int{{0, 2, 3}, {1}}},
		{edges(to(2), nil, to(1), to(4), to(3)), [][]int{{}, {2}, {0}, {4}, {3}}, "11100", [][]int{{0, 2}, {1}}},
		// Neither the exit nor the points behind others need be reached.
		{edges(to(2), nil, to(2)), [][]int{{}, {}, {0, 2}}, "101", [][]int{{0}, {2}}},
		{edges(to(2), nil, to(3), to(4), to(3)), [][]int{{}, {}, {0}, {2, 4}, {3}}, "10111", [][]int{{0, 2}, {3, 4}}},
		{edges(to(2), nil, nil, to(1)), [][]int{{}, {3}, {0}, {}}, "1010", [][]int{{0, 2}}},
		{edges(to(3, 2, 3), nil, to(3, 3), to(2, 1, 2, 3)), [][]int{{}, {3}, {0, 3}, {0, 2, 3}}, "1111", [][]int{{0}, {1}, {2}, {3}}},
		// The entry is a block of its own, if it leads to several points.
		{edges(to(2, 3), nil, to(4), to(5), to(1), to(1)), [][]int{{}, {4, 5}, {0}, {0}, {2}, {3}}, "111111", [][]int{{0}, {1}, {2, 4}, {3, 5}}},
	} {
		var reachable strings.Builder
		for _, ok := range flow.Reachable(x.f) {
			reachable.WriteString(map[bool]string{false: "0", true: "1"}[ok])
		}
		if before := flow.Before(x.f); !same(before, x.before) {
			t.Error(next(x.f), before)
		}
		if blocks := flow.Blocks(x.f); !same(blocks, x.blocks) {
			t.Error(next(x.f), blocks)
		}
		if reachable.String() != x.reachable {
			t.Error(next(x.f), reachable.String())
		}
	}
}

func TestFlowsThatAreNotValid(t *testing.T) {
	most := make([][]int, api.MaxNodes)
	if f := edges(most...); len(flow.Before(f)) != len(most) || len(flow.Reachable(f)) != len(most) || len(flow.Blocks(f)) != 1 || len(flow.Points(f, 0)) != 1 {
		t.Error("the greatest flow is valid")
	}
	for i, f := range []api.Flow{
		{}, edges(nil), edges(to(1)), edges(append(most, nil)...), edges(to(1), to(1)), edges(to(2), to(2), to(1)),
		edges(to(0), nil), edges(to(2), nil, to(0)), edges(to(2), nil, to(1, 0)), edges(to(-1), nil), edges(to(1, 2), nil), edges(to(2), nil, to(3)),
		edges(to(math.MinInt), nil), edges(to(math.MaxInt), nil), edges(to(1), nil, to(1), to(4)),
	} {
		if l := flow.Points(f, 0); len(l) > 0 {
			t.Error(i, l)
		}
		if l := flow.Before(f); len(l) > 0 {
			t.Error(i, l)
		}
		if l := flow.Reachable(f); len(l) > 0 {
			t.Error(i, l)
		}
		if l := flow.Blocks(f); len(l) > 0 {
			t.Error(i, l)
		}
	}
}

// Arguments are not modified, and results are newly allocated.

func TestResultsAreNew(t *testing.T) {
	p := checked(t, "proc f(x: int) { while x < 3 { x = x + 1; } for i = 1 to 2 { if x == 1 { x = 2; } } }")
	again := checked(t, "proc f(x: int) { while x < 3 { x = x + 1; } for i = 1 to 2 { if x == 1 { x = 2; } } }")
	first, _ := flow.Of(p, 0)
	second, _ := flow.Of(p, 0)
	for _, x := range first.Points {
		for i := range x.Next {
			x.Next[i] = -5
		}
		_ = append(x.Next, -5)
	}
	third, _ := flow.Of(p, 0)
	if !reflect.DeepEqual(second, third) || !reflect.DeepEqual(p, again) {
		t.Error(second, third)
	}
	for _, function := range []func(api.Flow) [][]int{flow.Before, flow.Blocks} {
		l, want := function(second), function(third)
		for i := range l {
			_ = append(l[i], -5)
		}
		if !same(l, want) {
			t.Error(l)
		}
		for i := range l {
			clear(l[i])
		}
		if !reflect.DeepEqual(second, third) || !same(function(second), want) {
			t.Error(second)
		}
	}
}
