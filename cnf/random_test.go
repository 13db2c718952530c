package cnf_test

import (
	"math/rand"
	"slices"
	"testing"

	"assessor/api"
	"assessor/cnf"
	"assessor/gates"
)

// random returns a random formula.
func random(r *rand.Rand, variables, clauses int) api.Formula {
	f := api.Formula{Variables: variables}
	for range clauses {
		var clause []int
		for v := 1; v <= variables; v++ {
			switch r.Intn(5) {
			case 0:
				clause = append(clause, v)
			case 1:
				clause = append(clause, -v)
			}
		}
		if len(clause) > 0 || r.Intn(10) == 0 {
			f.Clauses = append(f.Clauses, clause)
		}
	}
	return f
}

// models returns all models for a formula with some variables.
func models(variables int) [][]int {
	var l [][]int
	for k := range 1 << variables {
		var model []int
		for i := range variables {
			x := i + 1
			if k>>i&1 == 1 {
				x = -x
			}
			model = append(model, x)
		}
		l = append(l, model)
	}
	return l
}

// holds reports whether a formula holds for a set of literals, by the definition.
func holds(f api.Formula, model []int) bool {
	for _, clause := range f.Clauses {
		found := false
		for _, x := range clause {
			found = found || slices.Contains(model, x)
		}
		if !found {
			return false
		}
	}
	return true
}

// propagated returns the set of unit propagation by the definition, and false if it fails.
func propagated(f api.Formula, start []int) ([]int, bool) {
	set := map[int]bool{}
	for _, x := range start {
		set[x] = true
	}
	fails := false
	for grows := true; grows; {
		grows = false
		for _, clause := range f.Clauses {
			for i, x := range clause {
				others := 0
				for k, y := range clause {
					if k != i && set[-y] {
						others++
					}
				}
				if others == len(clause)-1 && !set[x] {
					set[x] = true
					grows = true
				}
			}
			wrong := 0
			for _, x := range clause {
				if set[-x] {
					wrong++
				}
			}
			fails = fails || wrong == len(clause)
		}
	}
	var l []int
	for v := 1; v <= f.Variables; v++ {
		fails = fails || set[v] && set[-v]
		for _, x := range []int{v, -v} {
			if set[x] {
				l = append(l, x)
			}
		}
	}
	if fails {
		return nil, false
	}
	return l, true
}

// P26.1

func TestRandomClauses(t *testing.T) {
	r := rand.New(rand.NewSource(1))
	for range 20000 {
		var l []int
		for range r.Intn(7) {
			l = append(l, r.Intn(24)-11)
		}
		l = slices.DeleteFunc(l, func(x int) bool { return x == 0 && r.Intn(4) > 0 })
		var want []int
		ok := !slices.Contains(l, 0)
		for v := 1; v <= 12; v++ {
			ok = ok && !(slices.Contains(l, v) && slices.Contains(l, -v))
			for _, x := range []int{v, -v} {
				if slices.Contains(l, x) {
					want = append(want, x)
				}
			}
		}
		if !ok {
			want = nil
		}
		n, is := cnf.Normal(l...)
		if !slices.Equal(n, want) || is != ok {
			t.Fatal(l, n, is)
		}
		// A clause is normal if it is its own normal form.
		if cnf.Valid(formula(12, l)) != (ok && slices.Equal(l, want)) {
			t.Fatal(l)
		}
	}
}

// P26.3

func TestRandomFormulas(t *testing.T) {
	r := rand.New(rand.NewSource(2))
	failures := 0
	for range 3000 {
		f := random(r, r.Intn(8), r.Intn(12))
		var start []int
		for range r.Intn(4) {
			if f.Variables > 0 {
				start = append(start, (1+r.Intn(f.Variables))*(1-2*r.Intn(2)))
			}
		}
		want, ok := propagated(f, start)
		l, is, e := cnf.Propagate(f, start...)
		if !slices.Equal(l, want) || is != ok || e != api.OK {
			t.Fatal(f, start, l, is, e, want, ok)
		}
		if !is {
			failures++
		}
		for _, model := range models(f.Variables) {
			is := cnf.Holds(f, model)
			if is != holds(f, model) {
				t.Fatal(f, model, is)
			}
			// What is propagated holds in every model that has the literals it starts from.
			has := func(x int) bool { return slices.Contains(model, x) }
			if is && !slices.ContainsFunc(start, func(x int) bool { return !has(x) }) && (!ok || slices.ContainsFunc(l, func(x int) bool { return !has(x) })) {
				t.Fatal(f, start, model, l)
			}
		}
	}
	if failures < 500 || failures > 2500 {
		t.Error(failures)
	}
}

// circuit returns a random circuit.
func circuit(t *testing.T, r *rand.Rand) api.Gates {
	t.Helper()
	b, e := gates.New(r.Intn(5))
	if e != api.OK {
		t.Fatal(e)
	}
	for range r.Intn(12) {
		b.And(r.Intn(2*b.Len()), r.Intn(2*b.Len()))
	}
	return b.Circuit()
}

// P26.2

// translated returns the formula of a circuit by the definition.
func translated(g api.Gates, literals []int) api.Formula {
	f := formula(1+g.Inputs+len(g.Gates), []int{-1})
	of := func(x int) int { return (x/2 + 1) * (1 - 2*(x%2)) }
	add := func(l ...int) {
		slices.SortFunc(l, func(x, y int) int { return x*x - y*y })
		f.Clauses = append(f.Clauses, l)
	}
	for i, gate := range g.Gates {
		v, p, q := 2+g.Inputs+i, of(gate[0]), of(gate[1])
		add(-v, p)
		add(-v, q)
		add(v, -p, -q)
	}
	for _, x := range literals {
		add(of(x))
	}
	return f
}

// P26.5

func TestRandomCircuits(t *testing.T) {
	r := rand.New(rand.NewSource(3))
	some := 0
	for range 2000 {
		g := circuit(t, r)
		nodes := 1 + g.Inputs + len(g.Gates)
		var literals, all []int
		for range r.Intn(3) {
			literals = append(literals, r.Intn(2*nodes))
		}
		for n := range nodes {
			all = append(all, 2*n)
		}
		f, e := cnf.Translate(g, literals...)
		if !equal(f, translated(g, literals)) || !cnf.Valid(f) || e != api.OK {
			t.Fatal(g, literals, f, e)
		}
		for _, choice := range models(g.Inputs) {
			var input []bool
			var start []int
			for i, x := range choice {
				input = append(input, x > 0)
				start = append(start, cnf.Literal(2*(i+1)+map[bool]int{false: 1}[x > 0]))
			}
			values, _ := gates.Eval(g, input, all...)
			var model []int
			for n, is := range values {
				model = append(model, map[bool]int{true: n + 1, false: -n - 1}[is])
			}
			truths, _ := gates.Eval(g, input, literals...)
			want := !slices.Contains(truths, false)
			// The formula holds for the values of the nodes if its literals are true; and the inputs decide on all nodes.
			l, ok, e := cnf.Propagate(f, start...)
			if cnf.Holds(f, model) != want || ok != want || e != api.OK || ok && !slices.Equal(l, model) {
				t.Fatal(g, literals, input, model, l, ok, e)
			}
			some += map[bool]int{true: 1}[want]
		}
	}
	if some < 1000 {
		t.Error(some)
	}
}
