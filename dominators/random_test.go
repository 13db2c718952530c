package dominators_test

import (
	"math/rand"
	"slices"
	"testing"

	"assessor/api"
	"assessor/checker"
	"assessor/dominators"
	"assessor/flow"
	"assessor/samples"
)

// ways tells between which points paths lead that do not contain a point (-1: that are any).
func ways(f api.Flow, without int) [][]bool {
	n := len(f.Points)
	leads := make([][]bool, n)
	for i := range leads {
		leads[i] = make([]bool, n)
		for k := range n {
			leads[i][k] = i != without && k != without && (i == k || slices.Contains(f.Points[i].Next, k))
		}
	}
	for middle := range n {
		for i := range n {
			for k := range n {
				leads[i][k] = leads[i][k] || leads[i][middle] && leads[middle][k]
			}
		}
	}
	return leads
}

// definition is the chapter's definitions for a flow.
type definition struct {
	f       api.Flow
	any     [][]bool   // the points between which paths lead
	without [][][]bool // and those between which paths lead without each point
}

func define(f api.Flow) *definition {
	d := &definition{f: f, any: ways(f, -1)}
	for i := range f.Points {
		d.without = append(d.without, ways(f, i))
	}
	return d
}

func (d *definition) dominates(a, b int) bool { return d.any[0][b] && !d.without[a][0][b] }

func (d *definition) postdominates(a, b int) bool { return d.any[b][1] && !d.without[a][b][1] }

// immediate returns for each point the strict one of a relation that all strict ones have it with.
func (d *definition) immediate(over func(a, b int) bool) []int {
	var l []int
	for b := range d.f.Points {
		found := -1
		for a := range d.f.Points {
			last := a != b && over(a, b)
			for c := range d.f.Points {
				last = last && (c == b || !over(c, b) || over(c, a))
			}
			if last {
				found = a
			}
		}
		l = append(l, found)
	}
	return l
}

// loops returns all loops.
func (d *definition) loops() []api.Loop {
	var loops []api.Loop
	for h := range d.f.Points {
		var tails, body []int
		for b, p := range d.f.Points {
			if slices.Contains(p.Next, h) && d.dominates(h, b) {
				tails = append(tails, b)
			}
		}
		for x := range d.f.Points {
			leads := func(b int) bool { return d.without[h][x][b] && d.any[0][x] }
			if x == h || slices.ContainsFunc(tails, leads) {
				body = append(body, x)
			}
		}
		if len(tails) > 0 {
			loops = append(loops, api.Loop{Head: h, Body: body})
		}
	}
	return loops
}

// control returns for each point those on which it is control dependent.
func (d *definition) control() [][]int {
	var all [][]int
	for b := range d.f.Points {
		var l []int
		for a, p := range d.f.Points {
			post := func(s int) bool { return d.postdominates(b, s) }
			if slices.ContainsFunc(p.Next, post) && (a == b || !d.postdominates(b, a)) {
				l = append(l, a)
			}
		}
		all = append(all, l)
	}
	return all
}

// compare compares what is computed for a flow with the definitions.
func compare(t *testing.T, f api.Flow) {
	t.Helper()
	d := define(f)
	if !dominators.Valid(f) {
		t.Fatal(next(f), "not valid")
	}
	if l, want := dominators.Dominators(f), d.immediate(d.dominates); !slices.Equal(l, want) {
		t.Fatal(next(f), "dominators", l, want)
	}
	if l, want := dominators.Postdominators(f), d.immediate(d.postdominates); !slices.Equal(l, want) {
		t.Fatal(next(f), "postdominators", l, want)
	}
	if l, want := dominators.Loops(f), d.loops(); !sameLoops(l, want) {
		t.Fatal(next(f), "loops", l, want)
	}
	if l, want := dominators.Control(f), d.control(); !same(l, want) {
		t.Fatal(next(f), "control", l, want)
	}
	for a := -1; a <= len(f.Points); a++ {
		for b := -1; b <= len(f.Points); b++ {
			both := a >= 0 && b >= 0 && a < len(f.Points) && b < len(f.Points)
			if ok := dominators.Dominates(f, a, b); ok != (both && d.dominates(a, b)) {
				t.Fatal(next(f), a, "dominates", b, ok)
			}
			if ok := dominators.Postdominates(f, a, b); ok != (both && d.postdominates(a, b)) {
				t.Fatal(next(f), a, "postdominates", b, ok)
			}
		}
	}
}

// random returns a random valid flow with some points.
func random(r *rand.Rand, size int) api.Flow {
	points := make([][]int, size)
	density := 1 + r.Intn(3)
	for i := range points {
		for range r.Intn(density + 1) {
			if i != 1 {
				points[i] = append(points[i], 1+r.Intn(size-1))
			}
		}
	}
	return edges(points...)
}

func TestRandomEdges(t *testing.T) {
	r := rand.New(rand.NewSource(1))
	for range 10000 {
		compare(t, random(r, 2+r.Intn(9)))
	}
	for range 50 {
		compare(t, random(r, 10+r.Intn(20)))
	}
}

// In these flows points lead to both neighbours, so that what is known of one spreads slowly.
func TestLadders(t *testing.T) {
	for size := 3; size < 20; size++ {
		points := make([][]int, size)
		points[0] = to(2, size-1)
		for i := 2; i < size; i++ {
			points[i] = to(max(2, i-1), min(i+1, size-1))
		}
		points[size/2+1] = append(points[size/2+1], 1)
		compare(t, edges(points...))
	}
}

func TestFlowsOfProcedures(t *testing.T) {
	r := rand.New(rand.NewSource(2))
	for range 400 {
		_, s := samples.Program(r)
		p, _, e := checker.Check(s)
		if s == "" || e != api.OK {
			continue
		}
		for i := range p.Procedures {
			if f, _ := flow.Of(p, i); len(f.Points) < 40 {
				compare(t, f)
			}
		}
	}
}

// P18.4

func TestConsequences(t *testing.T) {
	r := rand.New(rand.NewSource(3))
	for range 3000 {
		f := random(r, 2+r.Intn(12))
		over := dominators.Dominators(f)
		for b := range f.Points {
			all := map[int]bool{}
			if b == 0 || over[b] >= 0 {
				for a := b; a >= 0; a = over[a] {
					all[a] = true
				}
			}
			for a := range f.Points {
				if dominators.Dominates(f, a, b) != all[a] {
					t.Fatal(next(f), a, b, over)
				}
			}
		}
		wander(t, r, f)
		reverse(t, f)
		for _, l := range dominators.Loops(f) {
			for _, p := range l.Body {
				if !dominators.Dominates(f, l.Head, p) {
					t.Fatal(next(f), l)
				}
			}
		}
		for _, l := range dominators.Control(f) {
			for _, a := range l {
				if to := slices.Compact(slices.Sorted(slices.Values(f.Points[a].Next))); len(to) < 2 {
					t.Fatal(next(f), a)
				}
			}
		}
	}
}

// wander goes along a random path, on which all dominators of its points must stand in front of them.
func wander(t *testing.T, r *rand.Rand, f api.Flow) {
	t.Helper()
	path := to(0)
	for range 20 {
		next := f.Points[path[len(path)-1]].Next
		if len(next) == 0 {
			break
		}
		path = append(path, next[r.Intn(len(next))])
	}
	for i, b := range path {
		for a := range f.Points {
			if dominators.Dominates(f, a, b) && !slices.Contains(path[:i+1], a) {
				t.Fatal(f, path, a, b)
			}
		}
	}
}

// reverse checks that postdominators are dominators of the reversed flow, whose entry is the exit.
func reverse(t *testing.T, f api.Flow) {
	t.Helper()
	turn := func(p int) int {
		if p == 0 || p == 1 {
			return 1 - p
		}
		return p
	}
	points := make([][]int, len(f.Points))
	for i, p := range f.Points {
		for _, to := range p.Next {
			points[turn(to)] = append(points[turn(to)], turn(i))
		}
	}
	over, post := dominators.Dominators(edges(points...)), dominators.Postdominators(f)
	for i := range f.Points {
		want := over[turn(i)]
		if want >= 0 {
			want = turn(want)
		}
		if post[i] != want {
			t.Fatal(next(f), i, post[i], want)
		}
	}
}
