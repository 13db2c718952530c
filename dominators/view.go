package dominators

import (
	"slices"

	"assessor/api"
)

// Points that every flow has.
const (
	entry = iota
	exit
)

// edges gives for each point those to which edges lead from it.
type edges func(point int) []int

// view is a flow as it is seen from one of its ends: the edges that lead away from it, and the same ones reversed.
type view struct {
	size, root int
	next, back edges
}

func forward(f api.Flow) view {
	before := make([][]int, len(f.Points))
	for i, p := range f.Points {
		for _, to := range p.Next {
			before[to] = append(before[to], i)
		}
	}
	next := func(p int) []int { return f.Points[p].Next }
	back := func(p int) []int { return before[p] }
	return view{size: len(f.Points), root: entry, next: next, back: back}
}

func backward(f api.Flow) view {
	v := forward(f)
	return view{size: v.size, root: exit, next: v.back, back: v.next}
}

// search returns the points to which paths lead from some points: each behind those that are found first on paths from it.
func search(size int, from []int, next edges) []int {
	var found []int
	seen := make([]bool, size)
	var visit func([]int)
	visit = func(l []int) {
		for _, p := range l {
			if seen[p] {
				continue
			}
			seen[p] = true
			visit(next(p))
			found = append(found, p)
		}
	}
	visit(from)
	return found
}

// immediate returns for each point the last other one that stands on all paths from the root to it, or -1.
func (v view) immediate() []int {
	found := search(v.size, []int{v.root}, v.next)
	place := make([]int, v.size)
	for i, p := range found {
		place[p] = i
	}
	over := slices.Repeat([]int{-1}, v.size)
	// The root is found last. Going backwards, some point that leads to each other one comes before it.
	rest := found[:len(found)-1]
	for changed := true; changed; {
		changed = false
		for _, p := range slices.Backward(rest) {
			above := v.above(p, place, over)
			changed = changed || above != over[p]
			over[p] = above
		}
	}
	return over
}

// above returns where the points that lead to a point meet, as far as it is known what stands over them.
func (v view) above(p int, place, over []int) int {
	above := -1
	for _, q := range v.back(p) {
		switch {
		case !reached(over, v.root, q):
		case above < 0:
			above = q
		default:
			above = meet(above, q, place, over)
		}
	}
	return above
}

// meet returns the last point that is a or stands above it, and is b or stands above this. What stands above a point has a greater place.
func meet(a, b int, place, over []int) int {
	for a != b {
		if place[a] < place[b] {
			a = over[a]
		} else {
			b = over[b]
		}
	}
	return a
}

// reached reports whether a point is the root, or stands below it in a tree in which over is the next point above each one.
func reached(over []int, root, p int) bool { return p == root || over[p] >= 0 }

// stands reports whether a is b, or stands above it, in the tree of a root.
func stands(over []int, root, a, b int) bool {
	if b < 0 || b >= len(over) || !reached(over, root, b) {
		return false
	}
	for b >= 0 && b != a {
		b = over[b]
	}
	return b >= 0
}
