package cnf_test

import (
	"math"
	"slices"
	"testing"

	"assessor/api"
	"assessor/cnf"
)

// formula is a formula with some clauses.
func formula(variables int, clauses ...[]int) api.Formula {
	return api.Formula{Variables: variables, Clauses: clauses}
}

func equal(a, b api.Formula) bool {
	return a.Variables == b.Variables && slices.EqualFunc(a.Clauses, b.Clauses, slices.Equal[[]int])
}

// P26.1

func TestNormal(t *testing.T) {
	const most = 1 << 30
	for i, x := range []struct{ l, want []int }{
		{nil, nil}, {[]int{1}, []int{1}}, {[]int{-1}, []int{-1}}, {[]int{2, 1}, []int{1, 2}}, {[]int{3, -2, 1}, []int{1, -2, 3}}, {[]int{-3, -1, -2}, []int{-1, -2, -3}}, {[]int{2, 2}, []int{2}}, {[]int{-2, 1, -2, 1, -2}, []int{1, -2}}, {[]int{most, -1}, []int{-1, most}}, {[]int{-most, most - 1}, []int{most - 1, -most}}, {[]int{10, -9, 8, -7, 6, -5}, []int{-5, 6, -7, 8, -9, 10}}, {[]int{api.MaxVariables + 1}, []int{api.MaxVariables + 1}},
	} {
		if l, ok := cnf.Normal(x.l...); !slices.Equal(l, x.want) || !ok {
			t.Error(i, l, ok)
		}
	}
	for i, l := range [][]int{{0}, {1, 0}, {0, 1}, {-1, 0, 2}, {most + 1}, {-most - 1}, {1, most + 1}, {-most - 1, 2}, {math.MaxInt}, {math.MinInt}, {math.MinInt, 1}, {3, math.MinInt, math.MaxInt}, {math.MinInt, math.MinInt}, {1, -1}, {-1, 1}, {2, 1, -2}, {1, 2, 3, 3, -3}, {5, -5, 5}, {-5, 5, 5, -5}, {most, -most}} {
		if l, ok := cnf.Normal(l...); len(l) > 0 || ok {
			t.Error(i, l, ok)
		}
	}
}

func TestValid(t *testing.T) {
	for i, f := range []api.Formula{formula(0), formula(0, nil), formula(1, []int{}), formula(3), formula(3, []int{1}, []int{-1}, []int{1}), formula(3, []int{1, -2, 3}, []int{-1, 3}), formula(api.MaxVariables, []int{1, -api.MaxVariables}), {Variables: 0, Clauses: make([][]int, api.MaxClauses)}} {
		if !cnf.Valid(f) {
			t.Error(i)
		}
	}
	for i, f := range wrongFormulas() {
		if cnf.Valid(f) {
			t.Error(i)
		}
	}
}

// wrongFormulas returns formulas that are not valid.
func wrongFormulas() []api.Formula {
	return []api.Formula{
		formula(-1), formula(api.MaxVariables + 1), formula(math.MinInt), formula(math.MaxInt), formula(math.MaxInt, []int{1}), formula(-1, nil), {Variables: 1, Clauses: make([][]int, api.MaxClauses+1)},
		// Literals of other variables, or of none.
		formula(0, []int{1}), formula(2, []int{3}), formula(2, []int{-3}), formula(2, []int{1}, []int{1, 3}), formula(2, []int{0}), formula(2, []int{0, 1}), formula(2, []int{1, 0}), formula(2, []int{math.MinInt}), formula(2, []int{1, math.MinInt}), formula(2, []int{math.MaxInt}), formula(api.MaxVariables, []int{-api.MaxVariables - 1}),
		// Clauses that are not normal.
		formula(2, []int{1, 1}), formula(2, []int{1, -1}), formula(2, []int{-1, 1}), formula(2, []int{2, 1}), formula(2, []int{-2, 1}), formula(3, []int{1, 2}, []int{1, 3, 2}), formula(3, []int{1, 2, 2}), formula(3, []int{-2, -1}),
	}
}

func TestLiteral(t *testing.T) {
	for _, x := range []struct{ x, want int }{{0, 1}, {1, -1}, {2, 2}, {3, -2}, {4, 3}, {6, 4}, {7, -4}, {131070, 65536}, {131071, -65536}, {math.MaxInt, -(1 << 62)}, {math.MaxInt - 1, 1 << 62}, {-1, 0}, {-2, 0}, {-3, 0}, {math.MinInt, 0}} {
		if n := cnf.Literal(x.x); n != x.want {
			t.Error(x, n)
		}
	}
}

// P26.2

func TestTranslate(t *testing.T) {
	g := api.Gates{Inputs: 2, Gates: [][2]int{{2, 5}}}
	deep := api.Gates{Inputs: 3, Gates: [][2]int{{3, 6}, {4, 9}, {8, 11}}}
	for i, x := range []struct {
		g        api.Gates
		literals []int
		want     api.Formula
	}{
		{g, []int{6}, formula(4, []int{-1}, []int{2, -4}, []int{-3, -4}, []int{-2, 3, 4}, []int{4})},
		{g, nil, formula(4, []int{-1}, []int{2, -4}, []int{-3, -4}, []int{-2, 3, 4})},
		{g, []int{7, 2, 2, 5, 0, 1}, formula(4, []int{-1}, []int{2, -4}, []int{-3, -4}, []int{-2, 3, 4}, []int{-4}, []int{2}, []int{2}, []int{-3}, []int{1}, []int{-1})},
		{api.Gates{}, nil, formula(1, []int{-1})}, {api.Gates{}, []int{0}, formula(1, []int{-1}, []int{1})}, {api.Gates{Inputs: 1}, []int{3}, formula(2, []int{-1}, []int{-2})},
		{deep, []int{13}, formula(7, []int{-1}, []int{-2, -5}, []int{4, -5}, []int{2, -4, 5}, []int{3, -6}, []int{-5, -6}, []int{-3, 5, 6}, []int{5, -7}, []int{-6, -7}, []int{-5, 6, 7}, []int{-7})},
	} {
		f, e := cnf.Translate(x.g, x.literals...)
		if !equal(f, x.want) || e != api.OK || !cnf.Valid(f) {
			t.Error(i, f, e)
		}
	}
	for i, x := range []struct {
		g        api.Gates
		literals []int
	}{
		{g, []int{8}}, {g, []int{-1}}, {g, []int{6, 9}}, {g, []int{math.MinInt, 6}}, {g, []int{math.MaxInt}}, {api.Gates{}, []int{2}},
		{api.Gates{Inputs: -1}, nil}, {api.Gates{Inputs: api.MaxList + 1}, nil}, {api.Gates{Inputs: math.MaxInt}, []int{2}}, {api.Gates{Inputs: math.MinInt}, []int{0}}, {api.Gates{Inputs: 2, Gates: [][2]int{{4, 2}}}, []int{6}}, {api.Gates{Inputs: 2, Gates: [][2]int{{2, 4}, {2, 4}}}, nil}, {api.Gates{Inputs: 2, Gates: [][2]int{{2, 6}}}, []int{6}},
	} {
		if f, e := cnf.Translate(x.g, x.literals...); !equal(f, formula(0)) || e != api.ErrArg {
			t.Error(i, f, e)
		}
	}
}

func TestTheMostClauses(t *testing.T) {
	g := api.Gates{Inputs: 2, Gates: [][2]int{{2, 5}}}
	literals := slices.Repeat([]int{6}, api.MaxClauses-4)
	f, e := cnf.Translate(g, literals...)
	if len(f.Clauses) != api.MaxClauses || e != api.OK || !cnf.Valid(f) {
		t.Error(len(f.Clauses), e)
	}
	literals = append(literals, 6)
	if f, e := cnf.Translate(g, literals...); !equal(f, formula(0)) || e != api.ErrTooLarge {
		t.Error(len(f.Clauses), e)
	}
	// What is wrong comes before what is too large.
	for _, wrong := range []int{8, -1} {
		literals[len(literals)-1] = wrong
		if f, e := cnf.Translate(g, literals...); !equal(f, formula(0)) || e != api.ErrArg {
			t.Error(len(f.Clauses), e)
		}
	}
	if f, e := cnf.Translate(api.Gates{Inputs: 2, Gates: [][2]int{{4, 2}}}, slices.Repeat([]int{2}, api.MaxClauses)...); !equal(f, formula(0)) || e != api.ErrArg {
		t.Error(len(f.Clauses), e)
	}
	// The largest circuit has a formula.
	g = api.Gates{Inputs: api.MaxList}
	for x := 2; 1+g.Inputs+len(g.Gates) < api.MaxVariables; x += 2 {
		for y := x + 2; y <= 2*api.MaxList && 1+g.Inputs+len(g.Gates) < api.MaxVariables; y += 2 {
			g.Gates = append(g.Gates, [2]int{x, y})
		}
	}
	f, e = cnf.Translate(g, 2*api.MaxVariables-1)
	if f.Variables != api.MaxVariables || len(f.Clauses) != 2+3*len(g.Gates) || e != api.OK || !cnf.Valid(f) || !slices.Equal(f.Clauses[len(f.Clauses)-1], []int{-api.MaxVariables}) {
		t.Error(f.Variables, len(f.Clauses), e)
	}
}

// P26.3

func TestHolds(t *testing.T) {
	f := formula(3, []int{1, -2}, []int{2, 3}, []int{-1, 3})
	for i, x := range []struct {
		f     api.Formula
		model []int
		want  bool
	}{
		{f, []int{1, 2, 3}, true}, {f, []int{-1, -2, 3}, true}, {f, []int{1, -2, 3}, true}, {f, []int{-1, 2, 3}, false}, {f, []int{1, 2, -3}, false}, {f, []int{-1, -2, -3}, false},
		// Lists that are no models for it.
		{f, nil, false}, {f, []int{1, 2}, false}, {f, []int{1, 2, 3, 4}, false}, {f, []int{2, 1, 3}, false}, {f, []int{1, 3, 3}, false}, {f, []int{1, 2, 0}, false}, {f, []int{1, 2, 4}, false}, {f, []int{1, 1, 3}, false}, {f, []int{math.MinInt, 2, 3}, false}, {f, []int{1, 2, math.MaxInt}, false}, {f, []int{1, -1, 3}, false},
		{formula(0), nil, true}, {formula(0), []int{1}, false}, {formula(2), []int{-1, 2}, true}, {formula(2), nil, false}, {formula(0, nil), nil, false}, {formula(1, []int{1}, nil), []int{1}, false}, {formula(1, []int{1}, []int{-1}), []int{1}, false},
		// Formulas that are not valid.
		{formula(-1), nil, false}, {formula(1, []int{1, 1}), []int{1}, false}, {formula(1, []int{1, 2}), []int{1}, false}, {formula(2, []int{2, 1}), []int{1, 2}, false}, {formula(1, []int{0, 1}), []int{1}, false},
	} {
		if is := cnf.Holds(x.f, x.model); is != x.want {
			t.Error(i, is)
		}
	}
	model := make([]int, api.MaxVariables+1)
	for i := range model {
		model[i] = -i - 1
	}
	if !cnf.Holds(formula(api.MaxVariables, []int{1, -api.MaxVariables}), model[:api.MaxVariables]) || cnf.Holds(formula(api.MaxVariables+1), model) {
		t.Error("the most variables")
	}
}

func TestPropagate(t *testing.T) {
	gate := formula(4, []int{-1}, []int{2, -4}, []int{-3, -4}, []int{-2, 3, 4}, []int{4})
	for i, x := range []struct {
		f     api.Formula
		start []int
		want  []int
		ok    bool
	}{
		{gate, []int{2, -3}, []int{-1, 2, -3, 4}, true}, {gate, []int{-3, 2, 2, -3}, []int{-1, 2, -3, 4}, true}, {gate, nil, []int{-1, 2, -3, 4}, true}, {gate, []int{3}, nil, false}, {gate, []int{1}, nil, false},
		{formula(0), nil, nil, true}, {formula(3), nil, nil, true}, {formula(3), []int{3, -1}, []int{-1, 3}, true}, {formula(3), []int{3, -3}, nil, false}, {formula(3), []int{2, 1, -2}, nil, false},
		// The empty clause, and clauses of one literal.
		{formula(0, nil), nil, nil, false}, {formula(2, []int{1, 2}, nil), []int{1}, nil, false}, {formula(2, []int{2}), nil, []int{2}, true}, {formula(2, []int{2}, []int{2}), []int{2, 2}, []int{2}, true}, {formula(2, []int{2}, []int{-2}), nil, nil, false}, {formula(2, []int{2}), []int{-2}, nil, false},
		// Nothing follows from a clause one of whose literals is in the set, but what others say.
		{formula(3, []int{1, 2, 3}), []int{1}, []int{1}, true}, {formula(3, []int{1, 2, 3}), []int{-1}, []int{-1}, true}, {formula(3, []int{1, 2, 3}), []int{-3, -1}, []int{-1, 2, -3}, true}, {formula(3, []int{1, 2, 3}), []int{-3, -1, -2}, nil, false}, {formula(3, []int{1, 2, 3}), []int{-3, -1, 2}, []int{-1, 2, -3}, true},
		{formula(4, []int{-1, 2}, []int{-2, 3}, []int{-3, 4}), []int{1}, []int{1, 2, 3, 4}, true}, {formula(4, []int{-3, 4}, []int{-2, 3}, []int{-1, 2}), []int{-4}, []int{-1, -2, -3, -4}, true}, {formula(4, []int{-1, 2}, []int{-2, 3}, []int{-1, -3}), []int{1, 4}, nil, false}, {formula(2, []int{1, 2}, []int{1, -2}), nil, nil, true}, {formula(2, []int{1, 2}, []int{1, -2}), []int{-1}, nil, false},
	} {
		if l, ok, e := cnf.Propagate(x.f, x.start...); !slices.Equal(l, x.want) || ok != x.ok || e != api.OK {
			t.Error(i, l, ok, e)
		}
	}
	for i, start := range [][]int{{0}, {5}, {-5}, {1, 0}, {2, -3, 5}, {-5, 5}, {math.MinInt}, {math.MaxInt}, {1, -1, math.MinInt}} {
		if l, ok, e := cnf.Propagate(gate, start...); len(l) > 0 || ok || e != api.ErrArg {
			t.Error(i, l, ok, e)
		}
	}
	for i, f := range wrongFormulas() {
		for _, start := range [][]int{nil, {1}} {
			if l, ok, e := cnf.Propagate(f, start...); len(l) > 0 || ok || e != api.ErrArg {
				t.Error(i, l, ok, e)
			}
		}
	}
}

func TestLongPropagations(t *testing.T) {
	const n = api.MaxVariables
	var f api.Formula
	f.Variables = n
	for v := n; v > 1; v-- {
		f.Clauses = append(f.Clauses, []int{-v + 1, v})
	}
	// A clause with all variables, again and again: propagation must not read it each time.
	all := make([]int, n)
	for i := range all {
		all[i] = -i - 1
	}
	for range 20 {
		f.Clauses = append(f.Clauses, all[:n-1])
	}
	if l, ok, e := cnf.Propagate(f, 1); len(l) > 0 || ok || e != api.OK {
		t.Error(len(l), ok, e)
	}
	want := slices.Clone(all)
	for i := range want[1:] {
		want[i+1] = i + 2
	}
	if l, ok, e := cnf.Propagate(f, 2); !slices.Equal(l, want) || !ok || e != api.OK {
		t.Error(len(l), ok, e)
	}
	if l, ok, e := cnf.Propagate(f, -n); !slices.Equal(l, all) || !ok || e != api.OK {
		t.Error(len(l), ok, e)
	}
}

func TestArgumentsAreLeftAlone(t *testing.T) {
	literals := []int{3, -1, 2, 99}
	for range 2 {
		l, _ := cnf.Normal(literals[:3]...)
		if !slices.Equal(l, []int{-1, 2, 3}) {
			t.Error(l)
		}
		l[0] = 7
		_ = append(l, 8)
	}
	if !slices.Equal(literals, []int{3, -1, 2, 99}) {
		t.Error(literals)
	}
	sorted := []int{1, 2, 99}
	l, _ := cnf.Normal(sorted[:2]...)
	l[1] = 5
	_ = append(l, 6)
	if !slices.Equal(sorted, []int{1, 2, 99}) {
		t.Error(sorted)
	}
	f := formula(2, []int{1, 2}, []int{-1, 2})
	start := []int{-2, 1, 99}
	for range 2 {
		cnf.Propagate(f, start[:1]...)
		if l, _, _ := cnf.Propagate(f, start[1:2]...); !slices.Equal(l, []int{1, 2}) {
			t.Error(l)
		}
	}
	if !equal(f, formula(2, []int{1, 2}, []int{-1, 2})) || !slices.Equal(start, []int{-2, 1, 99}) {
		t.Error(f, start)
	}
	g := api.Gates{Inputs: 2, Gates: [][2]int{{2, 4}}}
	for range 2 {
		f, _ := cnf.Translate(g, 6, 6)
		_ = append(f.Clauses[1], 77)
		f.Clauses[4][0] = 5
		if !equal(f, formula(4, []int{-1}, []int{2, -4}, []int{3, -4}, []int{-2, -3, 4}, []int{5}, []int{4})) {
			t.Error(f)
		}
	}
}
