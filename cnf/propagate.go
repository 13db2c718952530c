package cnf

import (
	"slices"

	"assessor/api"
)

// Propagate returns the literals that follow from some literals by unit propagation.
func Propagate(f api.Formula, start ...int) ([]int, bool, api.Errno) {
	isNone := func(x int) bool { return !isVariable(f, variable(x)) }
	if !Valid(f) || slices.ContainsFunc(start, isNone) {
		return nil, false, api.ErrArg
	}
	p := newPropagation(f)
	for _, x := range start {
		p.add(x)
	}
	for i := range p.left {
		p.look(i)
	}
	// Literals that are added on the way are looked at, too.
	for k := 0; k < len(p.set) && !p.failed; k++ {
		p.spread(p.set[k])
	}
	if p.failed {
		return nil, false, api.OK
	}
	return p.ordered(f), true, api.OK
}

// propagation is the set of a unit propagation. A literal is spread when the clauses with its negation know that it is in the set.
type propagation struct {
	set    []int
	in     []bool  // of literals (by their places), whether they are in the set
	with   [][]int // of literals (by their places), the clauses with them
	left   []int   // of clauses, how many literals are no negations of ones that were spread
	rest   []int   // of clauses, the sum of these literals: if there is one only, it is this one
	failed bool
}

func newPropagation(f api.Formula) *propagation {
	p := &propagation{in: make([]bool, 2*f.Variables+2), with: make([][]int, 2*f.Variables+2), left: make([]int, len(f.Clauses)), rest: make([]int, len(f.Clauses))}
	for i, clause := range f.Clauses {
		for _, x := range clause {
			p.with[place(x)] = append(p.with[place(x)], i)
			p.left[i]++
			p.rest[i] += x
		}
	}
	return p
}

// place returns a number for a literal, next to that of its negation.
func place(x int) int {
	if x < 0 {
		return -2*x + 1
	}
	return 2 * x
}

// add adds a literal to the set.
func (p *propagation) add(x int) {
	if p.in[place(x)] {
		return
	}
	p.in[place(x)] = true
	p.set = append(p.set, x)
	p.failed = p.failed || p.in[place(-x)]
}

// look adds what follows from a clause.
func (p *propagation) look(i int) {
	switch p.left[i] {
	case 0:
		p.failed = true
	case 1:
		p.add(p.rest[i])
	}
}

// spread tells the clauses with the negation of a literal that it is in the set.
func (p *propagation) spread(x int) {
	for _, i := range p.with[place(-x)] {
		p.left[i]--
		p.rest[i] += x
		p.look(i)
	}
}

// ordered returns the set in the order of the variables.
func (p *propagation) ordered(f api.Formula) []int {
	var l []int
	for v := 1; v <= f.Variables; v++ {
		for _, x := range []int{v, -v} {
			if p.in[place(x)] {
				l = append(l, x)
			}
		}
	}
	return l
}
