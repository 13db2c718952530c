package proof

import (
	"cmp"
	"iter"
	"slices"

	"assessor/api"
)

// none stands in the place of a clause: all can hold, or a literal is assumed.
const none = -1

// checker propagates literals in the clauses of a formula and the steps behind them, of which only the first ones count. What follows from these without assumptions stays on the trail. It shares nothing with the solver, so that a mistake of one of both does not hide one of the other.
type checker struct {
	clauses [][]int   // the first two literals are watched
	from    []int     // of clauses, where the search for another literal to watch goes on; 0: they are not yet watched
	watched [][]watch // of literals (by their places), the clauses that watch them
	marks   []int     // of the clauses that count, how long the trail was before
	wrong   int       // one of them that cannot hold

	values  []int // of variables, the literal that holds, or 0
	reasons []int // of variables with a value, the clause from which it follows
	spots   []int // of variables with a value, their places on the trail
	trail   []int // the literals that hold, in the order in which they came
	next    int   // the place on the trail of the first literal that was not propagated

	out []bool // of clauses, whether they are left out
}

// watch is a clause that watches a literal, and another literal of it: as long as this is true, there is no need to look at the clause.
type watch struct{ clause, other int }

func newChecker(f api.Formula, proof [][]int) *checker {
	n := f.Variables + 1
	c := &checker{wrong: none, watched: make([][]watch, 2*n), values: make([]int, n), reasons: make([]int, n), spots: make([]int, n)}
	for _, l := range [][][]int{f.Clauses, proof} {
		for _, clause := range l {
			c.clauses = append(c.clauses, slices.Clone(clause))
		}
	}
	c.from = make([]int, len(c.clauses))
	c.out = make([]bool, len(c.clauses))
	return c
}

// follow reports whether some steps (in increasing order) follow.
func (c *checker) follow(steps []int) bool {
	n := 0
	for range c.following(steps) {
		n++
		if c.wrong != none {
			// Behind a clause that cannot hold, everything follows.
			return true
		}
	}
	return n == len(steps)
}

// following yields those of some steps that follow, each with a clause that cannot hold without it, and stops at the first one that does not follow.
func (c *checker) following(steps []int) iter.Seq2[int, int] {
	return func(yield func(int, int) bool) {
		for _, step := range steps {
			c.count(step)
			length := len(c.trail)
			conflict := c.refute(step)
			goesOn := conflict != none && yield(step, conflict)
			c.undo(length)
			if !goesOn {
				return
			}
		}
	}
}

// refute assumes the negations of the literals of a step, and returns a clause that cannot hold then.
func (c *checker) refute(step int) int {
	if c.wrong != none {
		return c.wrong
	}
	for _, x := range c.clauses[step] {
		switch {
		case c.isTrue(x):
			// Without this literal, the clause from which it follows cannot hold.
			return c.reasons[variable(x)]
		case !c.isFalse(x):
			c.set(-x, none)
		}
	}
	return c.propagate()
}

// count lets all clauses before a step count.
func (c *checker) count(step int) {
	for c.wrong == none && len(c.marks) < step {
		i := len(c.marks)
		c.marks = append(c.marks, len(c.trail))
		if !c.out[i] {
			c.look(i)
		}
	}
}

// rewind lets a clause and all behind it count no more.
func (c *checker) rewind(i int) {
	if i < len(c.marks) {
		c.undo(c.marks[i])
		c.marks = c.marks[:i]
		c.wrong = none
	}
}

// look propagates what follows from a clause.
func (c *checker) look(i int) {
	if c.from[i] == 0 {
		c.begin(i)
	}
	clause := c.clauses[i]
	hasTwo := len(clause) > 1 && !c.isFalse(clause[0]) && !c.isFalse(clause[1])
	if hasTwo || slices.ContainsFunc(clause, c.isTrue) {
		return
	}
	k := slices.IndexFunc(clause, func(x int) bool { return !c.isFalse(x) })
	if k < 0 {
		c.wrong = i
		return
	}
	c.set(clause[k], i)
	c.wrong = c.propagate()
}

// begin lets a clause watch the two of its literals that are not false, or are the first ones that are so no more when the trail gets shorter.
func (c *checker) begin(i int) {
	clause := c.clauses[i]
	slices.SortFunc(clause, func(x, y int) int { return cmp.Compare(c.end(y), c.end(x)) })
	c.from[i] = 2
	if len(clause) > 1 {
		c.watch(clause[0], watch{i, clause[1]})
		c.watch(clause[1], watch{i, clause[0]})
	}
}

// end returns the place on the trail of the negation of a literal; its length if it is not there.
func (c *checker) end(x int) int {
	if c.isFalse(x) {
		return c.spots[variable(x)]
	}
	return len(c.trail)
}

func (c *checker) watch(x int, w watch) { c.watched[place(x)] = append(c.watched[place(x)], w) }

func (c *checker) isTrue(x int) bool  { return c.values[variable(x)] == x }
func (c *checker) isFalse(x int) bool { return c.values[variable(x)] == -x }

// set makes a literal true that has no value.
func (c *checker) set(x, reason int) {
	v := variable(x)
	c.values[v], c.reasons[v], c.spots[v] = x, reason, len(c.trail)
	c.trail = append(c.trail, x)
}

// undo makes the trail shorter.
func (c *checker) undo(length int) {
	for _, x := range c.trail[length:] {
		c.values[variable(x)] = 0
	}
	c.trail, c.next = c.trail[:length], length
}

// propagate sets all literals that follow from the clauses that count, and returns one of these that cannot hold.
func (c *checker) propagate() int {
	for c.next < len(c.trail) {
		x := c.trail[c.next]
		c.next++
		if i := c.visit(-x); i != none {
			return i
		}
	}
	return none
}

// visit looks at the clauses that watch a literal that has become false, and returns one that counts and cannot hold.
func (c *checker) visit(x int) int {
	l := c.watched[place(x)]
	kept := l[:0]
	for k, w := range l {
		if c.isTrue(w.other) {
			kept = append(kept, w)
			continue
		}
		clause := c.clauses[w.clause]
		if clause[0] == x {
			clause[0], clause[1] = clause[1], x
		}
		w.other = clause[0]
		if !c.isTrue(w.other) && c.move(w) {
			continue
		}
		kept = append(kept, w)
		if c.isTrue(w.other) || !c.counts(w.clause) {
			continue
		}
		if c.isFalse(w.other) {
			c.watched[place(x)] = append(kept, l[k+1:]...)
			return w.clause
		}
		c.set(w.other, w.clause)
	}
	c.watched[place(x)] = kept
	return none
}

func (c *checker) counts(i int) bool { return i < len(c.marks) && !c.out[i] }

// move lets a clause watch another literal instead of its second one, if there is one that is not false.
func (c *checker) move(w watch) bool {
	clause := c.clauses[w.clause]
	// Going on where the last search ended, a long clause is not read once for each of its literals.
	k := c.from[w.clause]
	for range len(clause) - 2 {
		if k == len(clause) {
			k = 2
		}
		if y := clause[k]; !c.isFalse(y) {
			clause[1], clause[k] = y, clause[1]
			c.from[w.clause] = k + 1
			c.watch(y, w)
			return true
		}
		k++
	}
	return false
}

func variable(x int) int { return max(x, -x) }

// place returns a number for a literal, next to that of its negation.
func place(x int) int {
	if x < 0 {
		return -2*x + 1
	}
	return 2 * x
}
