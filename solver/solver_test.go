package solver_test

import (
	"math"
	"math/rand"
	"slices"
	"testing"

	"assessor/api"
	"assessor/cnf"
	"assessor/proof"
	"assessor/solver"
)

// formula is a formula with some clauses.
func formula(variables int, clauses ...[]int) api.Formula {
	return api.Formula{Variables: variables, Clauses: clauses}
}

// same reports whether two answers are the same.
func same(a, b api.Answer) bool {
	return a.Kind == b.Kind && a.Conflicts == b.Conflicts && slices.Equal(a.Model, b.Model) && slices.EqualFunc(a.Proof, b.Proof, slices.Equal[[]int])
}

// with returns a formula with further clauses of one literal.
func with(f api.Formula, literals ...int) api.Formula {
	f.Clauses = slices.Clone(f.Clauses)
	for _, x := range literals {
		f.Clauses = append(f.Clauses, []int{x})
	}
	return f
}

// isRight reports whether an answer is one for a formula and assumptions.
func isRight(f api.Formula, assumptions []int, budget int, a api.Answer) bool {
	if a.Conflicts < 0 || a.Conflicts > budget {
		return false
	}
	hasNot := func(x int) bool { return !slices.Contains(a.Model, x) }
	switch a.Kind {
	case api.AnswerModel:
		return cnf.Holds(f, a.Model) && !slices.ContainsFunc(assumptions, hasNot) && len(a.Proof) == 0
	case api.AnswerProof:
		return len(a.Model) == 0 && a.Conflicts > 0 && proof.Check(with(f, assumptions...), a.Proof)
	}
	return a.Kind == api.AnswerBudget && len(a.Model) == 0 && len(a.Proof) == 0 && a.Conflicts == budget
}

// wrong are arguments that are not allowed.
type wrong struct {
	f        api.Formula
	literals []int
	budget   int
}

func wrongArguments() []wrong {
	f := formula(3, []int{1, 2}, []int{-1, 2})
	var l []wrong
	for _, f := range []api.Formula{
		formula(-1), formula(api.MaxVariables + 1), formula(math.MinInt), formula(math.MaxInt), {Variables: 2, Clauses: make([][]int, api.MaxClauses+1)},
		formula(0, []int{1}), formula(2, []int{3}), formula(2, []int{-3}), formula(2, []int{0}), formula(2, []int{1, 0}), formula(2, nil, []int{math.MinInt}), formula(2, []int{math.MaxInt}), formula(2, []int{1, 1}), formula(2, []int{1, -1}), formula(2, []int{2, 1}), formula(2, []int{-2, 1}),
	} {
		l = append(l, wrong{f, nil, 10}, wrong{f, []int{1}, 10}, wrong{f, nil, 0})
	}
	for _, literals := range [][]int{{0}, {4}, {-4}, {1, 0}, {1, -2, 4}, {math.MinInt}, {math.MaxInt}, {2, math.MinInt}, {1, -1, 0}, {api.MaxVariables + 1}} {
		l = append(l, wrong{f, literals, 10})
	}
	for _, budget := range []int{-1, api.MaxConflicts + 1, math.MinInt, math.MaxInt} {
		l = append(l, wrong{f, nil, budget}, wrong{f, []int{-2}, budget})
	}
	return append(l, wrong{formula(0), []int{1}, 0}, wrong{formula(0), []int{-1}, 0})
}

func TestWrongArguments(t *testing.T) {
	for i, x := range wrongArguments() {
		if a, e := solver.Solve(x.f, x.literals, x.budget); !same(a, api.Answer{}) || e != api.ErrArg {
			t.Error(i, a, e)
		}
		if a, e := solver.Least(x.f, x.literals, x.budget); !same(a, api.Answer{}) || e != api.ErrArg {
			t.Error(i, a, e)
		}
	}
}

// P28.1

func TestSolve(t *testing.T) {
	two := formula(2, []int{1, 2}, []int{-1, 2})
	four := formula(2, []int{1, 2}, []int{1, -2}, []int{-1, 2}, []int{-1, -2})
	for i, x := range []struct {
		f           api.Formula
		assumptions []int
		kind        int
	}{
		{two, nil, api.AnswerModel}, {two, []int{-2}, api.AnswerProof}, {two, []int{2}, api.AnswerModel}, {two, []int{1}, api.AnswerModel}, {two, []int{-1, 2, -1}, api.AnswerModel}, {two, []int{2, 1, -2}, api.AnswerProof},
		{four, nil, api.AnswerProof}, {four, []int{1}, api.AnswerProof}, {four, []int{-2, 1}, api.AnswerProof},
		{formula(0), nil, api.AnswerModel}, {formula(0, nil), nil, api.AnswerProof}, {formula(3), nil, api.AnswerModel}, {formula(3), []int{3, -2, 1}, api.AnswerModel}, {formula(3), []int{3, -3}, api.AnswerProof}, {formula(3), []int{1, 2, 1, -2}, api.AnswerProof}, {formula(3, []int{1, 2}, nil), nil, api.AnswerProof}, {formula(3, nil, []int{3}), []int{3}, api.AnswerProof},
		{formula(1, []int{1}), nil, api.AnswerModel}, {formula(1, []int{1}), []int{-1}, api.AnswerProof}, {formula(1, []int{1}, []int{-1}), nil, api.AnswerProof}, {formula(2, []int{1}, []int{-1}), []int{2, -2}, api.AnswerProof}, {formula(3, []int{1}, []int{1}, []int{-1, 2}, []int{-2, -3}), nil, api.AnswerModel}, {formula(3, []int{1}, []int{-1, 2}, []int{-2, -3}), []int{3}, api.AnswerProof},
		{formula(api.MaxVariables, []int{1, -api.MaxVariables}, []int{-1}), nil, api.AnswerModel}, {formula(api.MaxVariables, []int{1, -api.MaxVariables}, []int{-1}), []int{api.MaxVariables}, api.AnswerProof},
	} {
		a, e := solver.Solve(x.f, x.assumptions, 100)
		if a.Kind != x.kind || e != api.OK || !isRight(x.f, x.assumptions, 100, a) {
			t.Error(i, a, e)
		}
	}
	if a, _ := solver.Solve(two, nil, 100); !slices.Contains(a.Model, 2) {
		t.Error(a)
	}
}

func TestBudgets(t *testing.T) {
	for i, x := range []struct {
		f           api.Formula
		assumptions []int
		budget      int
		kind        int
	}{
		// A conflict without decisions is one, too.
		{formula(0, nil), nil, 0, api.AnswerBudget}, {formula(0, nil), nil, 1, api.AnswerProof}, {formula(1, []int{1}, []int{-1}), nil, 0, api.AnswerBudget}, {formula(1, []int{1}, []int{-1}), nil, 1, api.AnswerProof}, {formula(1, []int{1}), []int{-1}, 0, api.AnswerBudget}, {formula(1, []int{1}), []int{-1}, 1, api.AnswerProof}, {formula(2, []int{1}, []int{-1, 2}), []int{-2}, 0, api.AnswerBudget}, {formula(2, []int{1}, []int{-1, 2}), []int{-2}, 1, api.AnswerProof},
		{formula(0), nil, 0, api.AnswerModel}, {formula(3, []int{1, 2}, []int{-1, 3}), nil, 0, api.AnswerModel}, {formula(3), []int{3, -1}, 0, api.AnswerModel},
		{formula(1, []int{1}), nil, api.MaxConflicts, api.AnswerModel}, {formula(0, nil), nil, api.MaxConflicts, api.AnswerProof},
	} {
		a, e := solver.Solve(x.f, x.assumptions, x.budget)
		if a.Kind != x.kind || e != api.OK || !isRight(x.f, x.assumptions, x.budget, a) {
			t.Error(i, a, e)
		}
	}
}

// P28.2

func TestLeast(t *testing.T) {
	two := formula(2, []int{1, 2}, []int{-1, 2})
	one := formula(3, []int{1, 2, 3})
	for i, x := range []struct {
		f     api.Formula
		order []int
		// What the model has of the variables of the order.
		want []int
	}{
		{two, []int{1, 2}, []int{-1, 2}}, {two, []int{-1}, []int{1}}, {two, []int{2}, []int{2}}, {two, []int{2, -1}, []int{1, 2}}, {one, []int{1, 2, 3}, []int{-1, -2, 3}}, {one, []int{3, 2, 1}, []int{1, -2, -3}}, {one, []int{2, 3}, []int{-2, -3}}, {one, []int{-1, -2, -3}, []int{1, 2, 3}}, {one, []int{-2, 1, -3}, []int{-1, 2, 3}},
		// Only the first one of the literals of a variable counts.
		{one, []int{1, -1, 2, 1, -2, 3}, []int{-1, -2, 3}}, {one, []int{-3, 3, 3, 1, -1}, []int{-1, 3}}, {formula(1), []int{1, -1}, []int{-1}}, {formula(1), []int{-1, 1}, []int{1}}, {formula(2, []int{1}), []int{1, 2}, []int{1, -2}}, {formula(0), nil, nil}, {two, nil, nil},
		// The least number with these bits, the highest one first.
		{formula(4, []int{3, 4}, []int{1, 2, -4}, []int{-2, 3, -4}), []int{4, 3, 2, 1}, []int{-1, -2, 3, -4}}, {formula(4, []int{4}, []int{1, 2, -4}, []int{-2, 3, -4}, []int{-1, 2, 3}), []int{4, 3, 2, 1}, []int{1, -2, 3, 4}}, {formula(api.MaxVariables, []int{1, api.MaxVariables}), []int{api.MaxVariables, 1}, []int{1, -api.MaxVariables}},
	} {
		a, e := solver.Least(x.f, x.order, 100)
		isOther := func(y int) bool { return !slices.Contains(a.Model, y) }
		if a.Kind != api.AnswerModel || e != api.OK || !isRight(x.f, nil, 100, a) || slices.ContainsFunc(x.want, isOther) {
			t.Error(i, a.Kind, a.Conflicts, e)
		}
	}
	for i, x := range []struct {
		f      api.Formula
		order  []int
		budget int
		kind   int
	}{
		{formula(0, nil), nil, 1, api.AnswerProof}, {formula(0, nil), nil, 0, api.AnswerBudget}, {formula(2, []int{1}, []int{-1}), []int{2, 1}, 1, api.AnswerProof}, {formula(2, []int{1}, []int{-1}), []int{2, 1}, 0, api.AnswerBudget}, {formula(2, []int{1, 2}, []int{1, -2}, []int{-1, 2}, []int{-1, -2}), []int{-2, 1}, 100, api.AnswerProof}, {formula(2, []int{1, 2}, []int{1, -2}, []int{-1, 2}, []int{-1, -2}), []int{-2, 1}, 1, api.AnswerBudget},
	} {
		a, e := solver.Least(x.f, x.order, x.budget)
		if a.Kind != x.kind || e != api.OK || !isRight(x.f, nil, x.budget, a) {
			t.Error(i, a, e)
		}
	}
}

func TestArgumentsAreLeftAlone(t *testing.T) {
	f := formula(3, []int{1, 2, 3}, []int{1, 2, -3}, []int{1, -2, 3}, []int{1, -2, -3}, []int{-1, 2, 3}, []int{-1, -2, 3}, []int{-1, -2, -3})
	clauses := []int{1, 2, 3, 1, 2, -3, 1, -2, 3, 1, -2, -3, -1, 2, 3, -1, -2, 3, -1, -2, -3}
	literals := []int{-3, 1, 99}
	for range 2 {
		a, _ := solver.Solve(f, literals[:1], 100)
		b, _ := solver.Least(f, literals[:2], 100)
		c, _ := solver.Solve(f, literals[1:2], 100)
		if a.Kind != api.AnswerProof && a.Kind != api.AnswerModel || !isRight(f, literals[:1], 100, a) || !isRight(f, nil, 100, b) || !isRight(f, literals[1:2], 100, c) {
			t.Error(a, b, c)
		}
		for _, l := range append(append(a.Proof, c.Proof...), a.Model, b.Model, c.Model) {
			for i := range l {
				l[i] = 77
			}
			_ = append(l, 88)
		}
		if !slices.Equal(slices.Concat(f.Clauses...), clauses) || !slices.Equal(literals, []int{-3, 1, 99}) {
			t.Fatal(f, literals)
		}
	}
}

// P28.1, P28.3

func TestLargeFormulas(t *testing.T) {
	const n = api.MaxVariables
	f := formula(n)
	var all []int
	for v := n; v > 1; v-- {
		f.Clauses = append(f.Clauses, []int{-v + 1, v})
	}
	for v := 1; v < n; v++ {
		all = append(all, v)
	}
	// Clauses with all variables must not be read again for each decision.
	for range 20 {
		f.Clauses = append(f.Clauses, all)
	}
	a, e := solver.Solve(f, nil, 1000)
	if a.Kind != api.AnswerModel || e != api.OK || !isRight(f, nil, 1000, a) {
		t.Error(a.Kind, a.Conflicts, e)
	}
	a, e = solver.Solve(f, []int{1, -n}, 1000)
	if a.Kind != api.AnswerProof || e != api.OK || !isRight(f, []int{1, -n}, 1000, a) {
		t.Error(a.Kind, a.Conflicts, e)
	}
	a, e = solver.Least(f, []int{-5}, 1000)
	if a.Kind != api.AnswerModel || e != api.OK || !isRight(f, nil, 1000, a) || a.Model[3] != -4 || a.Model[4] != 5 {
		t.Error(a.Kind, a.Conflicts, e)
	}
}

func TestProofsThatAreTooLong(t *testing.T) {
	r := rand.New(rand.NewSource(5))
	f := three(r, 1000, 4300)
	a, e := solver.Solve(f, nil, api.MaxConflicts)
	if a.Kind != api.AnswerBudget || len(a.Proof) > 0 || len(a.Model) > 0 || a.Conflicts < 1000 || a.Conflicts >= api.MaxConflicts || e != api.OK {
		t.Error(a.Kind, a.Conflicts, e)
	}
	if again, e := solver.Solve(f, nil, a.Conflicts+1); !same(again, a) || e != api.OK {
		t.Error(again.Kind, again.Conflicts, e)
	}
	if less, e := solver.Solve(f, nil, 1000); !same(less, api.Answer{Kind: api.AnswerBudget, Conflicts: 1000}) || e != api.OK {
		t.Error(less.Kind, less.Conflicts, e)
	}
}

func TestTheMostClauses(t *testing.T) {
	f := formula(2)
	for range api.MaxClauses / 2 {
		f.Clauses = append(f.Clauses, []int{1, 2}, []int{-1, 2})
	}
	a, e := solver.Solve(f, []int{1, 2}, 100)
	if a.Kind != api.AnswerModel || e != api.OK || !isRight(f, []int{1, 2}, 100, a) {
		t.Error(a, e)
	}
	// With the assumption there are too many clauses: there is no model, and no proof is accepted.
	a, e = solver.Solve(f, []int{-2}, 100)
	if a.Kind != api.AnswerBudget || e != api.OK || !isRight(f, []int{-2}, 100, a) {
		t.Error(a, e)
	}
	f.Clauses[7] = []int{-2}
	for _, solve := range []func(api.Formula, []int, int) (api.Answer, api.Errno){solver.Solve, solver.Least} {
		a, e = solve(f, nil, 100)
		if a.Kind != api.AnswerProof || e != api.OK || !isRight(f, nil, 100, a) {
			t.Error(a, e)
		}
	}
}
