package constraints_test

import (
	"math/rand"
	"slices"
	"testing"

	"assessor/api"
	"assessor/constraints"
)

// randomConstraints returns constraints of some vertices.
func randomConstraints(r *rand.Rand, vertices, marks, equalities int) []api.Constraint {
	all := []api.Type{integer, truth, some, scalar, array(1), array(2), record("r"), record("s")}
	r.Shuffle(len(all), func(i, j int) { all[i], all[j] = all[j], all[i] })
	all = all[:1+r.Intn(len(all))]
	var l []api.Constraint
	for range marks {
		l = append(l, mark(r.Intn(vertices), all[r.Intn(len(all))]))
	}
	for range equalities {
		l = append(l, equal(r.Intn(vertices), r.Intn(vertices)))
	}
	r.Shuffle(len(l), func(i, j int) { l[i], l[j] = l[j], l[i] })
	return l
}

// connected reports for each pair of vertices whether it is in one class, by closing the equalities again and again.
func connected(vertices int, l []api.Constraint) [][]bool {
	c := make([][]bool, vertices)
	for v := range c {
		c[v] = make([]bool, vertices)
		c[v][v] = true
	}
	for _, x := range l {
		if x.Kind == api.StepEqual {
			c[x.A][x.B], c[x.B][x.A] = true, true
		}
	}
	for k := range vertices {
		for i := range vertices {
			for j := range vertices {
				c[i][j] = c[i][j] || c[i][k] && c[k][j]
			}
		}
	}
	return c
}

// chainsOf returns all chains in which no vertex is passed twice.
func chainsOf(l []api.Constraint) [][]int {
	var found [][]int
	var extend func(chain []int, at int, passed []int)
	extend = func(chain []int, at int, passed []int) {
		for i, c := range l {
			switch {
			case c.Kind == api.StepMark && c.A == at && i > chain[0] && constraints.Exclude(l[chain[0]].Mark, c.Mark):
				found = append(found, append(slices.Clone(chain), i))
			case c.Kind == api.StepEqual && (c.A == at || c.B == at):
				if other := c.A + c.B - at; !slices.Contains(passed, other) {
					extend(append(slices.Clone(chain), i), other, append(slices.Clone(passed), other))
				}
			}
		}
	}
	for i, c := range l {
		if c.Kind == api.StepMark {
			extend([]int{i}, c.A, []int{c.A})
		}
	}
	return found
}

// compareChains compares by the length, and then by the indices.
func compareChains(a, b []int) int {
	if len(a) != len(b) {
		return len(a) - len(b)
	}
	return slices.Compare(a, b)
}

// solution returns the types of vertices and the chains by their definition.
func solution(vertices int, l []api.Constraint) ([]api.Type, [][]int) {
	together, all := connected(vertices, l), chainsOf(l)
	solved := make([]api.Type, vertices)
	var chains [][]int
	for v := range vertices {
		var own [][]int
		for _, chain := range all {
			if together[v][l[chain[0]].A] {
				own = append(own, chain)
			}
		}
		if len(own) > 0 {
			if slices.Index(together[v], true) == v {
				chains = append(chains, slices.MinFunc(own, compareChains))
			}
			continue
		}
		for _, c := range l {
			if c.Kind == api.StepMark && together[v][c.A] && c.Mark != some && c.Mark != scalar {
				solved[v] = c.Mark
			}
		}
	}
	return solved, chains
}

func TestSolveLikeTheDefinition(t *testing.T) {
	r := rand.New(rand.NewSource(1))
	conflicts, longest, typed := 0, 0, 0
	for range 20000 {
		vertices := 1 + r.Intn(7)
		l := randomConstraints(r, vertices, r.Intn(6), r.Intn(8))
		solved, chains, e := constraints.Solve(vertices, l)
		wantSolved, wantChains := solution(vertices, l)
		if !slices.Equal(solved, wantSolved) || !slices.EqualFunc(chains, wantChains, slices.Equal) || e != api.OK {
			t.Fatal(vertices, l, "\n", solved, chains, e, "\n", wantSolved, wantChains)
		}
		conflicts += len(chains)
		for _, chain := range chains {
			longest = max(longest, len(chain))
		}
		for _, x := range solved {
			if x.Kind != api.TypeNone {
				typed++
			}
		}
	}
	if conflicts < 5000 || longest < 6 || typed < 5000 {
		t.Error(conflicts, longest, typed)
	}
}

// P9.5

func TestSolveProperties(t *testing.T) {
	r := rand.New(rand.NewSource(2))
	for range 5000 {
		vertices := 1 + r.Intn(30)
		l := randomConstraints(r, vertices, r.Intn(20), r.Intn(40))
		solved, chains, _ := constraints.Solve(vertices, l)
		for _, c := range l {
			if c.Kind == api.StepEqual && solved[c.A] != solved[c.B] {
				t.Fatal(vertices, l, solved)
			}
		}
		for _, chain := range chains {
			checkChain(t, vertices, l, chain)
		}
		shuffled := slices.Clone(l)
		r.Shuffle(len(l), func(i, j int) { shuffled[i], shuffled[j] = shuffled[j], shuffled[i] })
		again, others, _ := constraints.Solve(vertices, shuffled)
		if !slices.Equal(again, solved) || !slices.EqualFunc(chains, others, func(a, b []int) bool { return len(a) == len(b) }) {
			t.Fatal(vertices, l, shuffled)
		}
		more := append(slices.Clone(l), randomConstraints(r, vertices, r.Intn(3), r.Intn(3))...)
		_, others, _ = constraints.Solve(vertices, more)
		together := connected(vertices, more)
		for _, chain := range chains {
			i := slices.IndexFunc(others, func(other []int) bool { return together[l[chain[0]].A][more[other[0]].A] })
			if i < 0 || len(others[i]) > len(chain) {
				t.Fatal(vertices, l, more, chain, others)
			}
		}
	}
}

// checkChain checks that a chain is one, and that there is none that is shorter once its constraints are left out.
func checkChain(t *testing.T, vertices int, l []api.Constraint, chain []int) {
	t.Helper()
	first, last := l[chain[0]], l[chain[len(chain)-1]]
	at := first.A
	ok := chain[0] < chain[len(chain)-1] && first.Kind == api.StepMark && last.Kind == api.StepMark && constraints.Exclude(first.Mark, last.Mark)
	for _, i := range chain[1 : len(chain)-1] {
		ok = ok && l[i].Kind == api.StepEqual && (l[i].A == at || l[i].B == at)
		at = l[i].A + l[i].B - at
	}
	if !ok || at != last.A {
		t.Fatal(vertices, l, chain)
	}
	var rest []api.Constraint
	for i, c := range l {
		if !slices.Contains(chain, i) {
			rest = append(rest, c)
		}
	}
	together := connected(vertices, l)
	_, others, _ := constraints.Solve(vertices, rest)
	for _, other := range others {
		if together[first.A][rest[other[0]].A] && len(other) < len(chain) {
			t.Fatal(vertices, l, chain, other)
		}
	}
}

func TestResultsAreNew(t *testing.T) {
	l := []api.Constraint{mark(0, integer), equal(0, 1), mark(1, truth), mark(2, integer), mark(2, truth)}
	_, chains, _ := constraints.Solve(3, l)
	chains[0] = append(chains[0], 9)
	chains[0][0] = 7
	solved, again, _ := constraints.Solve(3, l)
	solved[0] = truth
	if !slices.Equal(chains[1], []int{3, 4}) || !slices.Equal(again[0], []int{0, 1, 2}) || l[0] != mark(0, integer) {
		t.Error(chains, again)
	}
}

func FuzzSolve(f *testing.F) {
	f.Add(int64(1), 3, 2, 4)
	f.Fuzz(func(t *testing.T, seed int64, vertices, marks, equalities int) {
		if vertices < 1 || vertices > 6 || marks < 0 || marks > 6 || equalities < 0 || equalities > 7 {
			return
		}
		l := randomConstraints(rand.New(rand.NewSource(seed)), vertices, marks, equalities)
		solved, chains, e := constraints.Solve(vertices, l)
		wantSolved, wantChains := solution(vertices, l)
		if !slices.Equal(solved, wantSolved) || !slices.EqualFunc(chains, wantChains, slices.Equal) || e != api.OK {
			t.Fatal(vertices, l, solved, chains, e)
		}
	})
}
