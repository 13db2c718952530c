package solver_test

import (
	"math/rand"
	"slices"
	"testing"

	"assessor/api"
	"assessor/blast"
	"assessor/cnf"
	"assessor/gates"
	"assessor/proof"
	"assessor/solver"
)

// random returns a random formula, most clauses of which have some literals.
func random(r *rand.Rand, variables, clauses, literals int) api.Formula {
	f := formula(variables)
	for range clauses {
		var clause []int
		for _, v := range r.Perm(variables)[:min(variables, literals-r.Intn(2)+r.Intn(2))] {
			clause = append(clause, (v+1)*(1-2*r.Intn(2)))
		}
		if len(clause) == 0 && r.Intn(20) > 0 {
			continue
		}
		clause, _ = cnf.Normal(clause...)
		f.Clauses = append(f.Clauses, clause)
	}
	return f
}

// three returns a random formula whose clauses have three literals.
func three(r *rand.Rand, variables, clauses int) api.Formula {
	f := formula(variables)
	for range clauses {
		l := r.Perm(variables)[:3]
		for i := range l {
			l[i] = (l[i] + 1) * (1 - 2*r.Intn(2))
		}
		clause, _ := cnf.Normal(l...)
		f.Clauses = append(f.Clauses, clause)
	}
	return f
}

func someLiterals(r *rand.Rand, variables, most int) []int {
	var l []int
	for range r.Intn(most + 1) {
		if variables > 0 {
			l = append(l, (1+r.Intn(variables))*(1-2*r.Intn(2)))
		}
	}
	return l
}

// models returns all models of a formula with some literals, by the definition.
func models(f api.Formula, literals []int) [][]int {
	var l [][]int
	for k := range 1 << f.Variables {
		holds := func(x int) bool { return x > 0 == (k>>(max(x, -x)-1)&1 == 1) }
		isFalse := func(clause []int) bool { return !slices.ContainsFunc(clause, holds) }
		if slices.ContainsFunc(f.Clauses, isFalse) || slices.ContainsFunc(literals, func(x int) bool { return !holds(x) }) {
			continue
		}
		model := []int{}
		for v := 1; v <= f.Variables; v++ {
			if holds(v) {
				model = append(model, v)
			} else {
				model = append(model, -v)
			}
		}
		l = append(l, model)
	}
	return l
}

// isLess reports by the definition whether a model is less than another one.
func isLess(order, a, b []int) bool {
	for _, x := range order {
		if has := slices.Contains(a, x); has != slices.Contains(b, x) {
			return !has
		}
	}
	return false
}

// P28.3

// budgets tells whether smaller budgets give AnswerBudget, and greater ones the same answer.
func budgets(t *testing.T, r *rand.Rand, needed api.Answer, solve func(budget int) api.Answer) {
	t.Helper()
	for budget := range needed.Conflicts {
		if needed.Conflicts > 20 && r.Intn(needed.Conflicts) > 10 {
			continue
		}
		if a := solve(budget); !same(a, api.Answer{Kind: api.AnswerBudget, Conflicts: budget}) {
			t.Fatal(budget, needed, a)
		}
	}
	for _, budget := range []int{needed.Conflicts, needed.Conflicts + 1, needed.Conflicts + r.Intn(100), api.MaxConflicts} {
		if a := solve(budget); !same(a, needed) {
			t.Fatal(budget, needed, a)
		}
	}
}

// P28.1, P28.2, P28.4

func TestRandomFormulas(t *testing.T) {
	r := rand.New(rand.NewSource(1))
	var kinds [3]int
	most := 0
	for range 4000 {
		variables := r.Intn(11)
		literals := 2 + r.Intn(3)
		f := random(r, variables, r.Intn(2*literals*variables+3), literals)
		assumptions := someLiterals(r, variables, 3)
		a, e := solver.Solve(f, assumptions, api.MaxConflicts)
		l := models(f, assumptions)
		if e != api.OK || !isRight(f, assumptions, api.MaxConflicts, a) || (a.Kind == api.AnswerModel) != (len(l) > 0) || a.Conflicts > 1<<variables {
			t.Fatal(f, assumptions, a, e)
		}
		kinds[a.Kind]++
		most = max(most, a.Conflicts)
		budgets(t, r, a, func(budget int) api.Answer {
			a, _ := solver.Solve(f, assumptions, budget)
			return a
		})
		order := someLiterals(r, variables, 64)
		if r.Intn(2) == 0 {
			order = order[:min(len(order), 5)]
		}
		a, e = solver.Least(f, order, api.MaxConflicts)
		l = models(f, nil)
		isBetter := func(model []int) bool { return isLess(order, model, a.Model) }
		if e != api.OK || !isRight(f, nil, api.MaxConflicts, a) || (a.Kind == api.AnswerModel) != (len(l) > 0) || a.Kind == api.AnswerModel && slices.ContainsFunc(l, isBetter) {
			t.Fatal(f, order, a, e)
		}
		budgets(t, r, a, func(budget int) api.Answer {
			a, _ := solver.Least(f, order, budget)
			return a
		})
	}
	if kinds[api.AnswerModel] < 1000 || kinds[api.AnswerProof] < 1000 || kinds[api.AnswerBudget] > 0 || most < 10 {
		t.Error(kinds, most)
	}
}

// P28.3

func TestTwelveVariables(t *testing.T) {
	r := rand.New(rand.NewSource(2))
	// Each clause excludes one of the 2^12 choices of values, and there is nothing else to learn from.
	f := formula(12)
	for _, k := range r.Perm(1 << 12) {
		var clause []int
		for v := 1; v <= 12; v++ {
			clause = append(clause, v*(1-2*(k>>(v-1)&1)))
		}
		f.Clauses = append(f.Clauses, clause)
	}
	less := formula(12, f.Clauses[1:]...)
	var left []int
	for _, x := range f.Clauses[0] {
		left = append(left, -x)
	}
	for i := range 4 {
		order := someLiterals(r, 12, 64*(i%2))
		for _, f := range []api.Formula{f, less, random(r, 12, 60, 3), random(r, 12, 250, 4), random(r, 12, 400, 5)} {
			a, e := solver.Solve(f, nil, api.MaxConflicts)
			b, g := solver.Least(f, order, api.MaxConflicts)
			if a.Kind == api.AnswerBudget || b.Kind != a.Kind || e != api.OK || g != api.OK || !isRight(f, nil, 1<<12, a) || !isRight(f, nil, 1<<12, b) {
				t.Error(a.Kind, a.Conflicts, e, b.Kind, b.Conflicts, g)
			}
		}
		a, _ := solver.Solve(less, nil, api.MaxConflicts)
		b, _ := solver.Least(less, order, api.MaxConflicts)
		if !slices.Equal(a.Model, left) || !slices.Equal(b.Model, left) {
			t.Error(a.Model, b.Model, left)
		}
	}
}

// circuit returns a random circuit.
func circuit(r *rand.Rand, inputs, steps int) *gates.Builder {
	b, _ := gates.New(inputs)
	for range steps {
		x, y := r.Intn(2*b.Len()), r.Intn(2*b.Len())
		if r.Intn(2) == 0 {
			b.And(x, y)
		} else {
			b.Xor(x, y)
		}
	}
	return b
}

func TestRandomCircuits(t *testing.T) {
	r := rand.New(rand.NewSource(3))
	proofs, full := 0, 0
	for range 20000 {
		inputs := r.Intn(6)
		b := circuit(r, inputs, 1+r.Intn(25))
		var literals []int
		for range 1 + r.Intn(3) {
			// Literals of nodes that were made last exclude more.
			literals = append(literals, 2*b.Len()-1-r.Intn(min(10, 2*b.Len())))
		}
		f, _ := cnf.Translate(b.Circuit(), literals...)
		budget := 1 << inputs
		a, e := solver.Solve(f, nil, budget)
		if a.Kind == api.AnswerBudget || e != api.OK || !isRight(f, nil, budget, a) {
			t.Fatal(b.Circuit(), literals, a, e)
		}
		want := true
		for k := range 1 << inputs {
			var input []bool
			for i := range inputs {
				input = append(input, k>>i&1 == 1)
			}
			l, _ := gates.Eval(b.Circuit(), input, literals...)
			want = want && slices.Contains(l, false)
		}
		if (a.Kind == api.AnswerProof) != want {
			t.Fatal(b.Circuit(), literals, a)
		}
		if want {
			proofs++
		}
		if a.Conflicts == budget {
			full++
		}
		// With further literals there is less to decide.
		assumptions := someLiterals(r, f.Variables, 2)
		a, e = solver.Solve(f, assumptions, budget)
		if a.Kind == api.AnswerBudget || e != api.OK || !isRight(f, assumptions, budget, a) {
			t.Fatal(b.Circuit(), literals, assumptions, a, e)
		}
	}
	if proofs < 3000 || full < 1000 {
		t.Error(proofs, full)
	}
}

func TestConflictsThatComeAgain(t *testing.T) {
	// The first literal through which all of a conflict goes is no input here: without it, the last input can still be decided as before.
	for i, x := range []struct {
		g       api.Gates
		literal int
	}{
		{api.Gates{Inputs: 2, Gates: [][2]int{{3, 4}, {4, 6}, {6, 8}, {7, 9}, {11, 13}, {13, 14}, {15, 17}}}, 19}, {api.Gates{Inputs: 2, Gates: [][2]int{{2, 5}, {4, 7}, {5, 6}, {9, 11}, {11, 12}, {3, 9}, {14, 16}, {15, 17}, {19, 21}}}, 22}, {api.Gates{Inputs: 2, Gates: [][2]int{{3, 5}, {2, 4}, {7, 9}, {5, 11}, {4, 10}, {13, 15}, {3, 16}, {2, 17}, {19, 21}, {21, 22}}}, 25},
	} {
		f, _ := cnf.Translate(x.g, x.literal)
		if a, e := solver.Solve(f, nil, 4); a.Kind != api.AnswerProof || e != api.OK || !isRight(f, nil, 4, a) {
			t.Error(i, a, e)
		}
	}
}

// division returns the formula of a circuit that divides two integers of a width and finds that the quotient is wrong.
func division(width int) api.Formula {
	b, _ := gates.New(2 * width)
	x, y := make([]int, width), make([]int, width)
	for i := range width {
		x[i], y[i] = b.Input(i), b.Input(width+i)
	}
	q, rest := blast.Divide(b, x, y)
	whole := blast.Equal(b, blast.Add(b, blast.Mul(b, q, y), rest), x)
	f, _ := cnf.Translate(b.Circuit(), gates.Not(whole))
	return f
}

func TestDivisions(t *testing.T) {
	for width := 2; width < 7; width++ {
		f := division(width)
		budget := 1 << (2 * width)
		if a, e := solver.Solve(f, nil, budget); a.Kind != api.AnswerProof || e != api.OK || !isRight(f, nil, budget, a) {
			t.Error(width, a.Kind, a.Conflicts, e)
		}
	}
	// With 16 inputs nearly all conflicts of the budget are needed, and short clauses for the proof not to become too long.
	a, e := solver.Solve(division(8), nil, 1<<16)
	if a.Kind != api.AnswerProof || e != api.OK || proof.Format(a.Proof) == "" {
		t.Error(a.Kind, a.Conflicts, e)
	}
}

// P28.1

func TestHardFormulas(t *testing.T) {
	r := rand.New(rand.NewSource(4))
	for range 40 {
		f := three(r, 60+r.Intn(20), 300)
		assumptions := someLiterals(r, f.Variables, 4)
		for _, budget := range []int{30, api.MaxConflicts} {
			a, e := solver.Solve(f, assumptions, budget)
			if e != api.OK || !isRight(f, assumptions, budget, a) || budget == api.MaxConflicts && a.Kind == api.AnswerBudget {
				t.Fatal(f, assumptions, a, e)
			}
		}
	}
	// Nine pigeons do not have eight holes.
	const holes = 8
	f := formula(holes * (holes + 1))
	for p := range holes + 1 {
		var clause []int
		for h := range holes {
			clause = append(clause, p*holes+h+1)
			for q := range p {
				f.Clauses = append(f.Clauses, []int{-(q*holes + h + 1), -(p*holes + h + 1)})
			}
		}
		f.Clauses = append(f.Clauses, clause)
	}
	if a, e := solver.Solve(f, nil, api.MaxConflicts); a.Kind != api.AnswerProof || e != api.OK || !proof.Check(f, a.Proof) {
		t.Error(a.Kind, a.Conflicts, e)
	}
}
