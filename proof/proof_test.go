package proof_test

import (
	"math"
	"slices"
	"testing"

	"assessor/api"
	"assessor/proof"
)

// formula is a formula with some clauses.
func formula(variables int, clauses ...[]int) api.Formula {
	return api.Formula{Variables: variables, Clauses: clauses}
}

func equal(a, b [][]int) bool { return slices.EqualFunc(a, b, slices.Equal[[]int]) }

// four returns the formula of the chapter's example.
func four() api.Formula {
	return formula(2, []int{1, 2}, []int{1, -2}, []int{-1, 2}, []int{-1, -2})
}

// withThree returns the formula of the example with a further clause.
func withThree() api.Formula { return formula(3, append(four().Clauses, []int{3})...) }

// wrongFormulas returns formulas that are not valid.
func wrongFormulas() []api.Formula {
	return []api.Formula{
		formula(-1), formula(api.MaxVariables + 1), formula(math.MinInt), formula(math.MaxInt), formula(-1, nil), {Variables: 2, Clauses: make([][]int, api.MaxClauses+1)},
		formula(0, []int{1}, nil), formula(2, []int{3}, nil), formula(2, []int{0}, nil), formula(2, nil, []int{1, -3}), formula(2, nil, []int{math.MinInt}), formula(2, nil, []int{math.MaxInt}), formula(2, nil, []int{1, 1}), formula(2, nil, []int{1, -1}), formula(2, nil, []int{2, 1}),
	}
}

// wrongClauses returns clauses that are not normal, or have other variables than 1 and 2.
func wrongClauses() [][]int {
	return [][]int{{0}, {1, 0}, {0, 1}, {3}, {-3}, {1, 3}, {1, 1}, {1, -1}, {-1, 1}, {2, 1}, {-2, -1}, {1, 2, 2}, {math.MinInt}, {math.MaxInt}, {1, math.MinInt}, {1, math.MaxInt}, {api.MaxVariables + 1}, {1 << 40}}
}

// P27.1

func TestFollows(t *testing.T) {
	chain := formula(5, []int{-1, 2}, []int{-2, 3}, []int{-3, -4, 5}, []int{1, 3})
	for i, x := range []struct {
		f      api.Formula
		clause []int
		want   bool
	}{
		{four(), []int{1}, true}, {four(), []int{-1}, true}, {four(), []int{-2}, true}, {four(), []int{1, 2}, true}, {four(), []int{-1, 2}, true}, {four(), nil, false},
		{chain, []int{3}, true}, {chain, []int{-4, 5}, true}, {chain, []int{-1, 3}, true}, {chain, []int{-1, -4, 5}, true}, {chain, []int{2, 3}, true}, {chain, []int{1, -2, 3}, true}, {chain, []int{1}, false}, {chain, []int{-1}, false}, {chain, []int{-4}, false}, {chain, []int{5}, false}, {chain, []int{-3, 5}, false}, {chain, nil, false},
		// It is true in all models, but unit propagation alone does not show it.
		{formula(3, []int{1, 2, 3}, []int{1, 2, -3}, []int{1, -2, 3}, []int{1, -2, -3}), []int{1}, false}, {formula(3, []int{1, 2, 3}, []int{1, 2, -3}, []int{1, -2, 3}, []int{1, -2, -3}), []int{1, 2}, true},
		{formula(0), nil, false}, {formula(0, nil), nil, true}, {formula(1), []int{1}, false}, {formula(1, []int{1}), []int{1}, true}, {formula(1, []int{1}), []int{-1}, false}, {formula(1, []int{1}), nil, false}, {formula(1, []int{1}, []int{-1}), nil, true}, {formula(3, nil), []int{1, -2, 3}, true}, {formula(3, []int{2}, []int{-2}), []int{-1, 3}, true},
		{formula(api.MaxVariables, []int{1, -api.MaxVariables}), []int{1, -api.MaxVariables}, true}, {formula(api.MaxVariables, []int{1, -api.MaxVariables}), []int{-api.MaxVariables}, false},
	} {
		if is, e := proof.Follows(x.f, x.clause...); is != x.want || e != api.OK {
			t.Error(i, is, e)
		}
	}
	for i, clause := range wrongClauses() {
		for _, f := range []api.Formula{four(), formula(2, nil)} {
			if is, e := proof.Follows(f, clause...); is || e != api.ErrArg {
				t.Error(i, is, e)
			}
		}
	}
	for i, f := range wrongFormulas() {
		for _, clause := range [][]int{nil, {1}} {
			if is, e := proof.Follows(f, clause...); is || e != api.ErrArg {
				t.Error(i, is, e)
			}
		}
	}
}

func TestCheck(t *testing.T) {
	three := formula(3, []int{1, 2, 3}, []int{1, 2, -3}, []int{1, -2, 3}, []int{1, -2, -3}, []int{-1, 2, 3}, []int{-1, 2, -3}, []int{-1, -2, 3}, []int{-1, -2, -3})
	for i, x := range []struct {
		f     api.Formula
		proof [][]int
		want  bool
	}{
		{four(), [][]int{{1}, nil}, true}, {four(), [][]int{{-2}, {}}, true}, {four(), [][]int{nil}, false}, {four(), [][]int{{1, 2}, nil}, false}, {four(), [][]int{{1}, {1}, {-1}, {2}, nil}, true}, {four(), nil, false}, {four(), [][]int{{1}}, false}, {four(), [][]int{nil, {1}}, false}, {four(), [][]int{nil, {1}, nil}, false},
		// Behind an empty step, or what contradicts, everything follows.
		{four(), [][]int{{1}, nil, nil, {1}, nil}, true}, {four(), [][]int{{1}, {-1, -2}, {-2}, nil}, true}, {four(), [][]int{{1}, nil, {1}}, false}, {four(), [][]int{{1}, nil, {3}, nil}, false},
		// The order of the steps counts.
		{three, [][]int{{1, 2}, {1}, {2}, nil}, true}, {three, [][]int{{1, 2}, {1}, {-1, 2}, nil}, true}, {three, [][]int{{1}, {1, 2}, {-1, 2}, nil}, false}, {three, [][]int{{1, 2}, {-1, 2}, {1}, nil}, true}, {three, [][]int{{1, 2}, nil}, false}, {three, [][]int{{-3}, {1, 2}, nil}, false}, {three, [][]int{{-1, -2}, {-1}, {1, 3}, nil}, true},
		{formula(0, nil), [][]int{nil}, true}, {formula(0, nil), [][]int{nil, nil, nil}, true}, {formula(0), [][]int{nil}, false}, {formula(0, nil), nil, false}, {formula(0, nil), [][]int{{1}, nil}, false}, {formula(1, nil), [][]int{{1}, nil}, true}, {formula(1, []int{1}, []int{-1}), [][]int{nil}, true}, {formula(1, []int{1}), [][]int{nil}, false}, {formula(1, []int{1}), [][]int{{1}, nil}, false}, {formula(1, []int{1}), [][]int{{-1}, nil}, false}, {formula(2, []int{1}, []int{-1, 2}, []int{-2}), [][]int{nil}, true},
	} {
		if is := proof.Check(x.f, x.proof); is != x.want {
			t.Error(i, is)
		}
	}
	for i, clause := range wrongClauses() {
		for _, l := range [][][]int{{clause, {1}, nil}, {{1}, clause, nil}, {{1}, nil, clause, nil}, {{1}, nil, clause}} {
			if proof.Check(four(), l) {
				t.Error(i, l)
			}
		}
	}
	for i, f := range wrongFormulas() {
		if proof.Check(f, [][]int{nil}) {
			t.Error(i)
		}
	}
}

func TestTheMostClauses(t *testing.T) {
	f := formula(2)
	for range api.MaxClauses / 4 {
		f.Clauses = append(f.Clauses, four().Clauses...)
	}
	// With the steps there are more.
	l := append(slices.Repeat([][]int{{1, 2}}, 1000), []int{1}, nil)
	if !proof.Check(f, l) {
		t.Error("accepted")
	}
	if trimmed, e := proof.Trim(f, l); !equal(trimmed, [][]int{{1}, nil}) || e != api.OK {
		t.Error(trimmed, e)
	}
	if core, e := proof.Core(f, [][]int{{1}, nil}); !slices.Equal(core, []int{0, 1, 2, 3}) || e != api.OK {
		t.Error(core, e)
	}
	f.Clauses = append(f.Clauses, []int{1, 2})
	if proof.Check(f, l) {
		t.Error("too many clauses")
	}
}

func TestTheMostLiterals(t *testing.T) {
	all := make([]int, api.MaxVariables)
	for i := range all {
		all[i] = i + 1
	}
	f := formula(api.MaxVariables, []int{1}, []int{-1})
	l := append(slices.Repeat([][]int{all}, 16), nil)
	if s := proof.Format(l); !proof.Check(f, l) || len(s) == 0 {
		t.Error(len(s))
	} else if again, e := proof.Parse(s); !equal(again, l) || e != api.OK {
		t.Error(len(again), e)
	}
	if trimmed, e := proof.Trim(f, l); !equal(trimmed, [][]int{nil}) || e != api.OK {
		t.Error(len(trimmed), e)
	}
	s := proof.Format(l)
	l = append(l, []int{5}, nil)
	if proof.Check(f, l) || proof.Format(l) != "" {
		t.Error("too many literals")
	}
	if again, e := proof.Parse(s + "5 0\n0\n"); len(again) > 0 || e != api.ErrSyntax {
		t.Error(len(again), e)
	}
	if trimmed, e := proof.Trim(f, l); len(trimmed) > 0 || e != api.ErrArg {
		t.Error(len(trimmed), e)
	}
	// There may be any number of empty steps.
	l = make([][]int, api.MaxProof+7)
	if s := proof.Format(l); !proof.Check(f, l) || len(s) != 2*len(l) {
		t.Error(len(s))
	} else if again, e := proof.Parse(s); !equal(again, l) || e != api.OK {
		t.Error(len(again), e)
	}
	if trimmed, e := proof.Trim(f, l); !equal(trimmed, [][]int{nil}) || e != api.OK {
		t.Error(len(trimmed), e)
	}
}

// P27.2

func TestTrim(t *testing.T) {
	for i, x := range []struct {
		f     api.Formula
		proof [][]int
		want  [][]int
	}{
		{four(), [][]int{{1}, nil}, [][]int{{1}, nil}}, {four(), [][]int{{1}, {2}, nil}, [][]int{{1}, nil}}, {four(), [][]int{{1}, {-1}, nil}, [][]int{{1}, nil}}, {four(), [][]int{{1, 2}, {2}, {1, 2}, nil}, [][]int{{2}, nil}},
		// The last one of two that are the same is looked at first.
		{four(), [][]int{{1}, {2}, {1}, {2}, nil}, [][]int{{1}, nil}}, {four(), [][]int{{1}, nil, nil}, [][]int{{1}, nil}}, {four(), [][]int{{1}, nil, {2}, nil}, [][]int{{1}, nil}},
		{formula(0, nil), [][]int{nil}, [][]int{nil}}, {formula(0, nil), [][]int{nil, nil, nil}, [][]int{nil}}, {formula(1, []int{1}, []int{-1}), [][]int{{1}, {-1}, nil}, [][]int{nil}},
		// What is left out can be what others followed from, if they follow from others as well.
		{formula(3, []int{1, 2}, []int{1, -2}, []int{-1, 3}, []int{-1, -3}), [][]int{{1}, {3}, {1, 2}, nil}, [][]int{{1}, nil}}, {formula(3, []int{1, 2}, []int{1, -2}, []int{-1, 2}, []int{-1, -2}), [][]int{{1}, {1, 3}, {-1}, nil}, [][]int{{1}, nil}},
	} {
		l, e := proof.Trim(x.f, x.proof)
		if !equal(l, x.want) || e != api.OK || !proof.Check(x.f, l) {
			t.Error(i, l, e)
		}
	}
	for i, x := range wrongProofs() {
		if l, e := proof.Trim(x.f, x.proof); len(l) > 0 || e != api.ErrArg {
			t.Error(i, l, e)
		}
	}
}

// given is a formula with a list of steps.
type given struct {
	f     api.Formula
	proof [][]int
}

// wrongProofs returns formulas with steps that are not accepted for them.
func wrongProofs() []given {
	l := []given{{four(), nil}, {four(), [][]int{nil}}, {four(), [][]int{{1}}}, {four(), [][]int{nil, {1}}}, {four(), [][]int{{1, 2}, nil}}, {four(), [][]int{{1}, nil, {2}}}, {formula(0), [][]int{nil}}, {formula(0), nil}, {formula(1, []int{1}), [][]int{nil}}, {formula(0, nil), nil}}
	for _, f := range wrongFormulas() {
		l = append(l, given{f, [][]int{nil}}, given{f, nil})
	}
	for _, clause := range wrongClauses() {
		l = append(l, given{four(), [][]int{{1}, clause, nil}}, given{four(), [][]int{{1}, nil, clause, nil}})
	}
	return l
}

func TestCore(t *testing.T) {
	for i, x := range []struct {
		f     api.Formula
		proof [][]int
		want  []int
	}{
		{four(), [][]int{{1}, nil}, []int{0, 1, 2, 3}}, {four(), [][]int{{2}, nil}, []int{0, 1, 2, 3}},
		// Of the same clauses the first ones are left.
		{formula(2, []int{1, 2}, []int{1, -2}, []int{1, 2}, []int{-1, 2}, []int{-1, -2}, []int{-1, 2}), [][]int{{1}, nil}, []int{0, 1, 3, 4}}, {formula(3, []int{3}, []int{1}, []int{1}, []int{2, -3}, []int{-1}, []int{-1}), [][]int{nil}, []int{1, 4}},
		// A step that does not matter must follow all the same.
		{withThree(), [][]int{{1}, nil}, []int{0, 1, 2, 3}}, {withThree(), [][]int{{3}, {1}, nil}, []int{0, 1, 2, 3, 4}}, {withThree(), [][]int{{1}, {3}, nil}, []int{0, 1, 2, 3}},
		{formula(0, nil), [][]int{nil}, []int{0}}, {formula(0, nil, nil, nil), [][]int{nil, nil}, []int{0}}, {formula(2, []int{1}, nil, []int{-1}, []int{2}), [][]int{{2}, nil}, []int{1}}, {formula(2, []int{2}, []int{1}, nil, []int{-1}), [][]int{{2}, nil}, []int{2}},
	} {
		l, e := proof.Core(x.f, x.proof)
		if !slices.Equal(l, x.want) || e != api.OK {
			t.Error(i, l, e)
		}
	}
	for i, x := range wrongProofs() {
		if l, e := proof.Core(x.f, x.proof); len(l) > 0 || e != api.ErrArg {
			t.Error(i, l, e)
		}
	}
}

func TestLongChains(t *testing.T) {
	const n = api.MaxVariables
	f := formula(n)
	for v := n; v > 1; v-- {
		f.Clauses = append(f.Clauses, []int{-v + 1, v})
	}
	f.Clauses = append(f.Clauses, []int{1}, []int{-n})
	var all []int
	for v := 1; v < n; v++ {
		all = append(all, v)
	}
	// Clauses with all variables must not be read again for each literal.
	for range 20 {
		f.Clauses = append(f.Clauses, all)
	}
	var l [][]int
	for v := 2; v < n; v++ {
		l = append(l, []int{v})
	}
	l = append(l, nil)
	if !proof.Check(f, l) || !proof.Check(f, [][]int{nil}) || proof.Check(formula(n, f.Clauses[1:]...), [][]int{nil}) {
		t.Error("chain")
	}
	if trimmed, e := proof.Trim(f, l); !equal(trimmed, [][]int{nil}) || e != api.OK {
		t.Error(len(trimmed), e)
	}
}

// P27.2

func TestManySteps(t *testing.T) {
	const n = 4500
	f := formula(n + 2)
	var clauses, l [][]int
	for v := 1; v < n; v++ {
		clauses = append(clauses, []int{-v, v + 1})
		l = append(l, []int{v + 1})
	}
	clauses = append(clauses, []int{1})
	for _, clause := range four().Clauses {
		a, b := clause[0]*(n+1), clause[1]/2*(n+2)
		clauses = append(clauses, []int{a, b})
	}
	l = append(l, []int{n + 1}, nil)
	// Each step follows from all clauses up to it, and from others that are the same.
	f.Clauses = append(slices.Clone(clauses), clauses...)
	c, e := proof.Core(f, l)
	var want []int
	for i := range clauses {
		want = append(want, i)
	}
	if !slices.Equal(c, want) || e != api.OK {
		t.Error(len(c), e)
	}
	if trimmed, e := proof.Trim(f, l); !equal(trimmed, [][]int{{n + 1}, nil}) || e != api.OK {
		t.Error(len(trimmed), e)
	}
}

func TestArgumentsAreLeftAlone(t *testing.T) {
	f := formula(3, []int{1, 2}, []int{1, -2}, []int{1, 2, 3}, []int{-1, 2}, []int{-1, -2})
	l := [][]int{{1, 2, 3}, {1}, {1, 3}, {}}
	for range 2 {
		if is, e := proof.Follows(f, l[0]...); !is || e != api.OK {
			t.Error(is, e)
		}
		if !proof.Check(f, l) {
			t.Error("accepted")
		}
		trimmed, _ := proof.Trim(f, l)
		if !equal(trimmed, [][]int{{1}, nil}) {
			t.Error(trimmed)
		}
		trimmed[0][0] = 7
		_ = append(trimmed[0], 8)
		core, _ := proof.Core(f, l)
		if !slices.Equal(core, []int{0, 1, 3, 4}) {
			t.Error(core)
		}
		core[0] = 9
		proof.Format(l)
	}
	if !equal(f.Clauses, [][]int{{1, 2}, {1, -2}, {1, 2, 3}, {-1, 2}, {-1, -2}}) || !equal(l, [][]int{{1, 2, 3}, {1}, {1, 3}, {}}) {
		t.Error(f, l)
	}
	a, _ := proof.Parse("1 0\n-2 0\n0\n")
	a[0][0] = 3
	_ = append(a[0], 4)
	if !equal(a, [][]int{{3}, {-2}, nil}) {
		t.Error(a)
	}
}
