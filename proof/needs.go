package proof

import "slices"

// most is how many users of clauses are noted one by one.
const most = 1 << 23

// needs tells which steps may follow from the clauses from low to high - 1 only, so that not all others must be looked at when one of these is left out.
type needs struct {
	*checker
	low, high int
	users     [][]int // of the clauses from low on, steps that were found to follow from them
	tails     []int   // of these clauses, a step from which on all steps may follow from them, too
	noted     int     // how many users there are
	seen      []bool  // of variables, whether a clause that cannot hold depends on them
}

func newNeeds(c *checker, low, high int) *needs {
	n := &needs{checker: c, low: low, high: high, users: make([][]int, high-low), tails: make([]int, high-low), seen: make([]bool, len(c.values))}
	for k := range n.tails {
		n.tails[k] = len(c.clauses)
	}
	return n
}

// shrink leaves clauses out, from the last one to the first, each of them if some steps follow without it, and returns those that remain.
func (n *needs) shrink(steps []int) []int {
	n.rewind(0)
	n.note(steps)
	var l []int
	for i := n.high - 1; i >= n.low; i-- {
		if !n.leave(i) {
			l = append(l, i)
		}
	}
	slices.Reverse(l)
	return l
}

// leave leaves a clause out if all steps follow without it; it reports whether they do.
func (n *needs) leave(i int) bool {
	steps := n.affected(i)
	n.out[i] = true
	n.rewind(i)
	n.out[i] = n.follow(steps)
	n.rewind(i)
	if n.out[i] {
		n.note(steps)
	}
	return n.out[i]
}

// affected returns the steps that may follow from a clause only. All others are known to follow without it.
func (n *needs) affected(i int) []int {
	l := n.users[i-n.low]
	for step := n.tails[i-n.low]; step < len(n.clauses); step++ {
		l = append(l, step)
	}
	slices.Sort(l)
	return slices.DeleteFunc(slices.Compact(l), func(step int) bool { return n.out[step] })
}

// note notes from what some steps follow.
func (n *needs) note(steps []int) {
	for step, conflict := range n.following(steps) {
		for _, i := range n.uses(conflict) {
			k := i - n.low
			if n.wrong == none && n.noted < most {
				n.users[k] = append(n.users[k], step)
				n.noted++
			} else {
				n.tails[k] = min(n.tails[k], step)
			}
		}
		if n.wrong != none {
			// All steps behind this one follow from the same clauses.
			return
		}
	}
}

// uses returns those of the clauses from low to high - 1 because of which a clause cannot hold.
func (n *needs) uses(conflict int) []int {
	var l []int
	use := func(i int) {
		if n.low <= i && i < n.high {
			l = append(l, i)
		}
		for _, x := range n.clauses[i] {
			n.seen[variable(x)] = true
		}
	}
	use(conflict)
	for _, x := range slices.Backward(n.trail) {
		v := variable(x)
		if n.seen[v] && n.reasons[v] != none {
			use(n.reasons[v])
		}
		n.seen[v] = false
	}
	return l
}
