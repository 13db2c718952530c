package dominators_test

import (
	"math"
	"reflect"
	"slices"
	"testing"

	"assessor/api"
	"assessor/dominators"
)

// edges returns a flow with points that lead to others.
func edges(l ...[]int) api.Flow {
	f := api.Flow{}
	for _, next := range l {
		f.Points = append(f.Points, api.Point{Next: next})
	}
	return f
}

// to is a list of points.
func to(l ...int) []int { return l }

// next returns where the points of a flow lead.
func next(f api.Flow) [][]int {
	var l [][]int
	for _, p := range f.Points {
		l = append(l, p.Next)
	}
	return l
}

// same reports whether two lists of lists are equal.
func same(a, b [][]int) bool { return slices.EqualFunc(a, b, slices.Equal[[]int]) }

// loop returns a loop with a head.
func loop(head int, body ...int) api.Loop { return api.Loop{Head: head, Body: body} }

// sameLoops reports whether two lists of loops are equal.
func sameLoops(a, b []api.Loop) bool {
	return slices.EqualFunc(a, b, func(a, b api.Loop) bool { return a.Head == b.Head && slices.Equal(a.Body, b.Body) })
}

// example is the flow of the chapter's example.
func example() api.Flow { return edges(to(2), nil, to(3, 4), to(2), to(1)) }

// notValid returns flows that are not valid.
func notValid() []api.Flow {
	return []api.Flow{
		{}, edges(nil), edges(to(1)), edges(to(0)), edges(make([][]int, api.MaxNodes+1)...), edges(to(1), to(1)), edges(to(2), to(2), to(1)),
		edges(to(0), nil), edges(to(2), nil, to(0)), edges(to(2), nil, to(1, 0)), edges(to(-1), nil), edges(to(1, 2), nil), edges(to(2), nil, to(3)),
		edges(to(math.MinInt), nil), edges(to(math.MaxInt), nil), edges(to(1), nil, to(1), to(4)), edges(to(1), nil, to(1, -1)),
	}
}

// P18.1

func TestValid(t *testing.T) {
	named := edges(to(1, 2, 1), nil, to(2, 1))
	named.Points[0].Node, named.Points[1].Kind, named.Points[2].Node = -7, 99, math.MaxInt
	for i, f := range []api.Flow{edges(nil, nil), edges(to(1), nil), edges(to(1, 1), nil), edges(to(1), to()), edges(nil, nil, to(2)), edges(make([][]int, api.MaxNodes)...), example(), named} {
		if !dominators.Valid(f) {
			t.Error(i, f)
		}
	}
	for i, f := range notValid() {
		if dominators.Valid(f) {
			t.Error(i, next(f))
		}
		if l := dominators.Dominators(f); len(l) > 0 {
			t.Error(i, l)
		}
		if l := dominators.Postdominators(f); len(l) > 0 {
			t.Error(i, l)
		}
		if l := dominators.Loops(f); len(l) > 0 {
			t.Error(i, l)
		}
		if l := dominators.Control(f); len(l) > 0 {
			t.Error(i, l)
		}
		for _, a := range []int{-1, 0, 1} {
			for _, b := range []int{-1, 0, 1} {
				if dominators.Dominates(f, a, b) || dominators.Postdominates(f, a, b) {
					t.Error(i, a, b)
				}
			}
		}
	}
}

func TestImmediate(t *testing.T) {
	for _, x := range []struct {
		f          api.Flow
		over, post []int
	}{
		{edges(nil, nil), to(-1, -1), to(-1, -1)},
		{edges(to(1), nil), to(-1, 0), to(1, -1)},
		{edges(to(1, 1), nil), to(-1, 0), to(1, -1)},
		{edges(to(2), nil, to(1)), to(-1, 2, 0), to(2, -1, 1)},
		{edges(to(2), nil, to(2)), to(-1, -1, 0), to(-1, -1, -1)},
		{edges(to(2), nil, to(2, 1)), to(-1, 2, 0), to(2, -1, 1)},
		{example(), to(-1, 4, 0, 2, 2), to(2, -1, 4, 2, 1)},
		{edges(to(2, 3), nil, to(1), to(1)), to(-1, 0, 0, 0), to(1, -1, 1, 1)},
		{edges(to(2, 3), nil, to(4), to(4), to(1)), to(-1, 4, 0, 0, 0), to(4, -1, 4, 4, 1)},
		// Points that cannot be reached, or do not lead to the exit.
		{edges(to(1), nil, to(1)), to(-1, 0, -1), to(1, -1, 1)},
		{edges(to(1), nil, to(3), to(2)), to(-1, 0, -1, -1), to(1, -1, -1, -1)},
		{edges(to(1), nil, to(3), to(2, 1)), to(-1, 0, -1, -1), to(1, -1, 3, 1)},
		{edges(to(1, 2), nil, to(3), nil), to(-1, 0, 0, 2), to(1, -1, -1, -1)},
		{edges(to(2, 3), nil, to(1), to(4), to(3, 4)), to(-1, 2, 0, 0, 3), to(2, -1, 1, -1, -1)},
		{edges(to(2), nil, to(1), to(2)), to(-1, 2, 0, -1), to(2, -1, 1, 2)},
		// Loops with two entries, for which one round is not enough.
		{edges(to(2, 3), nil, to(3), to(2, 1)), to(-1, 3, 0, 0), to(3, -1, 3, 1)},
		{edges(to(2, 3), nil, to(4), to(5), to(5), to(4, 1)), to(-1, 5, 0, 0, 0, 0), to(5, -1, 4, 5, 5, 1)},
		{edges(to(2, 6), nil, to(3), to(2, 4), to(3, 5), to(4, 6), to(5, 1)), to(-1, 6, 0, 0, 0, 0, 0), to(6, -1, 3, 4, 5, 6, 1)},
	} {
		if l := dominators.Dominators(x.f); !slices.Equal(l, x.over) {
			t.Error(next(x.f), l, x.over)
		}
		if l := dominators.Postdominators(x.f); !slices.Equal(l, x.post) {
			t.Error(next(x.f), l, x.post)
		}
	}
}

func TestRelations(t *testing.T) {
	f := example()
	f.Points = append(f.Points, api.Point{Next: to(5)}, api.Point{Next: to(1)})
	over := map[int][]int{0: {0}, 1: {0, 1, 2, 4}, 2: {0, 2}, 3: {0, 2, 3}, 4: {0, 2, 4}}
	post := map[int][]int{0: {0, 1, 2, 4}, 1: {1}, 2: {1, 2, 4}, 3: {1, 2, 3, 4}, 4: {1, 4}, 6: {1, 6}}
	for _, a := range []int{math.MinInt, -1, 0, 1, 2, 3, 4, 5, 6, 7, math.MaxInt} {
		for _, b := range []int{math.MinInt, -1, 0, 1, 2, 3, 4, 5, 6, 7, math.MaxInt} {
			if ok := dominators.Dominates(f, a, b); ok != slices.Contains(over[b], a) {
				t.Error(a, "dominates", b, ok)
			}
			if ok := dominators.Postdominates(f, a, b); ok != slices.Contains(post[b], a) {
				t.Error(a, "postdominates", b, ok)
			}
		}
	}
}

// P18.2

func TestLoops(t *testing.T) {
	for _, x := range []struct {
		f    api.Flow
		want []api.Loop
	}{
		{edges(nil, nil), nil},
		{edges(to(2, 3), nil, to(1), to(1)), nil},
		{example(), []api.Loop{loop(2, 2, 3)}},
		{edges(to(2), nil, to(2)), []api.Loop{loop(2, 2)}},
		{edges(to(2), nil, to(2, 2, 1)), []api.Loop{loop(2, 2)}},
		{edges(to(5), nil, to(3), to(4), to(5), to(2, 1)), []api.Loop{loop(5, 2, 3, 4, 5)}},
		// Two back edges to one head make one loop, also if one of them leads from the head.
		{edges(to(2), nil, to(3, 4, 1), to(2), to(2)), []api.Loop{loop(2, 2, 3, 4)}},
		{edges(to(2), nil, to(2, 3, 1), to(2)), []api.Loop{loop(2, 2, 3)}},
		// A loop in another one, and one behind it.
		{edges(to(2), nil, to(3, 5), to(4), to(3, 2), to(5, 1)), []api.Loop{loop(2, 2, 3, 4), loop(3, 3, 4), loop(5, 5)}},
		{edges(to(3), nil, to(4, 3), to(2, 1), to(2)), []api.Loop{loop(2, 2, 4), loop(3, 2, 3, 4)}},
		// A cycle that can be entered at two points is no loop.
		{edges(to(2, 3), nil, to(3), to(2, 1)), nil},
		{edges(to(2), nil, to(3, 4, 1), to(4), to(3, 2)), []api.Loop{loop(2, 2, 3, 4)}},
		// Points that cannot be reached are in no loop.
		{edges(to(2), nil, to(3, 1), to(2), to(3)), []api.Loop{loop(2, 2, 3)}},
		{edges(to(1), nil, to(2)), nil},
		{edges(to(1), nil, to(3), to(2, 1)), nil},
		{edges(to(2), nil, to(1), to(2, 3)), nil},
	} {
		if l := dominators.Loops(x.f); !sameLoops(l, x.want) {
			t.Error(next(x.f), l, x.want)
		}
	}
}

// P18.3

func TestControl(t *testing.T) {
	for _, x := range []struct {
		f    api.Flow
		want [][]int
	}{
		{edges(nil, nil), [][]int{{}, {}}},
		{edges(to(1), nil), [][]int{{}, {}}},
		{edges(to(1, 1), nil), [][]int{{}, {}}},
		{example(), [][]int{{}, {}, {2}, {2}, {}}},
		{edges(to(2), nil, to(2, 1)), [][]int{{}, {}, {2}}},
		{edges(to(2), nil, to(2)), [][]int{{}, {}, {}}},
		{edges(to(2), nil, to(3, 4), to(5), to(5), to(1)), [][]int{{}, {}, {}, {2}, {2}, {}}},
		{edges(to(2), nil, to(3, 5), to(4), to(5), to(1)), [][]int{{}, {}, {}, {2}, {2}, {}}},
		{edges(to(2), nil, to(3, 3), to(1)), [][]int{{}, {}, {}, {}}},
		// An if in a loop that it can leave.
		{edges(to(2), nil, to(3, 5), to(4, 1), to(2), to(1)), [][]int{{}, {}, {3}, {2}, {3}, {2}}},
		{edges(to(2), nil, to(3, 1), to(4, 1), to(5, 1), to(2)), [][]int{{}, {}, {4}, {2}, {3}, {4}}},
		{edges(to(2, 3, 2), nil, to(1), to(2, 1)), [][]int{{}, {}, {0, 3}, {0}}},
		{edges(to(2), nil, to(3, 1), to(4, 2), to(3, 2)), [][]int{{}, {}, {2}, {2, 4}, {3}}},
		// Only ways to the exit count.
		{edges(to(2), nil, to(3, 4), to(3), to(1)), [][]int{{}, {}, {}, {}, {}}},
		{edges(to(2), nil, to(3, 1), nil), [][]int{{}, {}, {}, {}}},
		// Points that cannot be reached depend and are depended on, too.
		{edges(to(1), nil, to(3, 4), to(5), to(5), to(1)), [][]int{{}, {}, {}, {2}, {2}, {}}},
		{edges(to(3), nil, to(3, 4), to(1), to(1)), [][]int{{}, {}, {}, {2}, {2}}},
	} {
		if l := dominators.Control(x.f); !same(l, x.want) {
			t.Error(next(x.f), l, x.want)
		}
	}
}

func TestGreatestFlows(t *testing.T) {
	chain, all := make([][]int, api.MaxNodes), make([][]int, api.MaxNodes)
	for i := range api.MaxNodes {
		if i == 1 {
			continue
		}
		chain[i] = to(max(2, i+1))
		for k := 1; k < api.MaxNodes; k++ {
			all[i] = append(all[i], k)
			if 2 <= k && k <= i {
				chain[i] = append(chain[i], k)
			}
		}
	}
	chain[0], chain[api.MaxNodes-1][0] = to(2), 1
	f := edges(chain...)
	over, post, loops, control := dominators.Dominators(f), dominators.Postdominators(f), dominators.Loops(f), dominators.Control(f)
	for i := 3; i < api.MaxNodes; i++ {
		// The last point leads to the exit, and all others to the next one, and all of them back to each one from 2 on.
		if over[i] != i-1 || post[i-1] != i || len(loops[i-2].Body) != api.MaxNodes-i || loops[i-2].Head != i || len(control[i]) != api.MaxNodes-i {
			t.Fatal(i, over[i], post[i-1], len(control[i]))
		}
	}
	f = edges(all...)
	over, post, loops, control = dominators.Dominators(f), dominators.Postdominators(f), dominators.Loops(f), dominators.Control(f)
	for i := 2; i < api.MaxNodes; i++ {
		if over[i] != 0 || post[i] != 1 || !sameLoops(loops[i-2:i-1], []api.Loop{loop(i, i)}) || len(control[i]) != api.MaxNodes-1 {
			t.Fatal(i, over[i], post[i], len(control[i]))
		}
	}
}

func TestExampleOfDominators(t *testing.T) {
	f := example()
	if l := dominators.Dominators(f); !slices.Equal(l, to(-1, 4, 0, 2, 2)) {
		t.Error(l)
	}
	if l := dominators.Postdominators(f); !slices.Equal(l, to(2, -1, 4, 2, 1)) {
		t.Error(l)
	}
	if l := dominators.Loops(f); !sameLoops(l, []api.Loop{loop(2, 2, 3)}) {
		t.Error(l)
	}
	if l := dominators.Control(f); !same(l, [][]int{{}, {}, {2}, {2}, {}}) {
		t.Error(l)
	}
}

// Arguments are not modified, and results are newly allocated.

func TestResultsAreNew(t *testing.T) {
	make := func() api.Flow {
		return edges(to(5, 2, 5), nil, to(4, 3, 1, 3), to(2, 1), to(2), to(2, 6), to(5, 1))
	}
	f := make()
	control, loops := dominators.Control(f), dominators.Loops(f)
	for _, l := range control {
		_ = append(l, 77)
	}
	for _, l := range loops {
		_ = append(l.Body, 77)
	}
	if !same(control, dominators.Control(f)) || !sameLoops(loops, dominators.Loops(f)) {
		t.Error(control, loops)
	}
	clear(dominators.Dominators(f))
	clear(dominators.Postdominators(f))
	for _, l := range control {
		clear(l)
	}
	for _, l := range loops {
		clear(l.Body)
	}
	if !reflect.DeepEqual(f, make()) {
		t.Error(f)
	}
}
