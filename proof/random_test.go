package proof_test

import (
	"math/rand"
	"slices"
	"testing"

	"assessor/api"
	"assessor/proof"
	"assessor/solver"
)

// random returns a random clause with at most some literals.
func random(r *rand.Rand, variables, most int) []int {
	var clause []int
	for _, v := range r.Perm(variables)[:r.Intn(min(most, variables)+1)] {
		clause = append(clause, (v+1)*(1-2*r.Intn(2)))
	}
	slices.SortFunc(clause, func(x, y int) int { return x*x - y*y })
	return clause
}

// fails reports by the definition whether unit propagation from some literals fails.
func fails(clauses [][]int, start []int) bool {
	set := map[int]bool{}
	for _, x := range start {
		set[x] = true
	}
	for grows := true; grows; {
		grows = false
		for _, clause := range clauses {
			wrong := 0
			for _, x := range clause {
				if set[-x] {
					wrong++
				}
			}
			if wrong == len(clause) {
				return true
			}
			for _, x := range clause {
				if wrong == len(clause)-1 && !set[-x] && !set[x] {
					set[x] = true
					grows = true
				}
			}
		}
	}
	for x := range set {
		if set[-x] {
			return true
		}
	}
	return false
}

// follows reports by the definition whether a clause follows from others.
func follows(clauses [][]int, clause []int) bool {
	var start []int
	for _, x := range clause {
		start = append(start, -x)
	}
	return fails(clauses, start)
}

// accepts reports by the definition whether steps, the last one of which is empty, are accepted for some clauses.
func accepts(clauses, steps [][]int) bool {
	l := slices.Clone(clauses)
	for _, step := range steps {
		if !follows(l, step) {
			return false
		}
		l = append(l, step)
	}
	return true
}

func without(l [][]int, i int) [][]int { return slices.Delete(slices.Clone(l), i, i+1) }

// trimmed trims a proof by the definition.
func trimmed(clauses, steps [][]int) [][]int {
	for i := len(steps) - 2; i >= 0; i-- {
		if l := without(steps, i); accepts(clauses, l) {
			steps = l
		}
	}
	return steps
}

// core returns the core by the definition.
func core(clauses, steps [][]int) []int {
	var l []int
	for i := len(clauses) - 1; i >= 0; i-- {
		if others := without(clauses, i); accepts(others, steps) {
			clauses = others
		} else {
			l = append(l, i)
		}
	}
	slices.Reverse(l)
	return l
}

// refuted returns a random formula and a proof that is accepted for it, if there is one.
func refuted(r *rand.Rand) (api.Formula, [][]int, bool) {
	f := formula(1 + r.Intn(6))
	for range 4 + r.Intn(6*f.Variables) {
		f.Clauses = append(f.Clauses, random(r, f.Variables, 3))
		if last := len(f.Clauses) - 1; len(f.Clauses[last]) == 0 && r.Intn(10) > 0 {
			f.Clauses = f.Clauses[:last]
		}
	}
	l := slices.Clone(f.Clauses)
	var steps [][]int
	for range 200 {
		step := random(r, f.Variables, 3)
		if len(step) == 0 && r.Intn(5) > 0 || !follows(l, step) {
			continue
		}
		l = append(l, step)
		steps = append(steps, step)
		if len(steps) > 25 || len(step) == 0 && r.Intn(4) > 0 {
			break
		}
	}
	if len(steps) == 0 || !follows(l, nil) {
		return f, steps, false
	}
	if len(steps[len(steps)-1]) > 0 {
		steps = append(steps, nil)
	}
	return f, steps, true
}

// P27.1, P27.2

func TestRandomProofs(t *testing.T) {
	r := rand.New(rand.NewSource(1))
	some, shorter, smaller := 0, 0, 0
	for range 6000 {
		f, steps, ok := refuted(r)
		if !ok {
			continue
		}
		some++
		if !proof.Check(f, steps) {
			t.Fatal(f, steps)
		}
		want := trimmed(f.Clauses, steps)
		l, e := proof.Trim(f, steps)
		if !equal(l, want) || e != api.OK {
			t.Fatal(f, steps, l, e, want)
		}
		if len(l) < len(steps) {
			shorter++
		}
		if again, e := proof.Trim(f, l); !equal(again, l) || e != api.OK {
			t.Fatal(f, l, again, e)
		}
		for _, p := range [][][]int{steps, l} {
			want := core(f.Clauses, p)
			c, e := proof.Core(f, p)
			if !slices.Equal(c, want) || e != api.OK {
				t.Fatal(f, p, c, e, want)
			}
			if len(c) < len(f.Clauses) {
				smaller++
			}
			// A proof is accepted for the core, and also with further clauses.
			part := formula(f.Variables)
			for _, i := range c {
				part.Clauses = append(part.Clauses, f.Clauses[i])
			}
			more := formula(f.Variables+1, append(slices.Clone(part.Clauses), random(r, f.Variables+1, 4))...)
			if !proof.Check(part, p) || !proof.Check(more, p) {
				t.Fatal(f, p, c)
			}
		}
	}
	if some < 2000 || shorter < some/2 || smaller < some/2 {
		t.Error(some, shorter, smaller)
	}
}

func TestRandomSteps(t *testing.T) {
	r := rand.New(rand.NewSource(2))
	accepted, rejected := 0, 0
	for range 20000 {
		f, steps, ok := refuted(r)
		if len(steps) == 0 {
			continue
		}
		// Steps that are exchanged, left out or changed.
		i, k := r.Intn(len(steps)), r.Intn(len(steps))
		switch r.Intn(3) {
		case 0:
			steps[i], steps[k] = steps[k], steps[i]
		case 1:
			steps[i] = random(r, f.Variables, 2)
		default:
			steps = without(steps, i)
		}
		want := len(steps) > 0 && len(steps[len(steps)-1]) == 0 && accepts(f.Clauses, steps)
		if proof.Check(f, steps) != want {
			t.Fatal(f, steps, want, ok)
		}
		if want {
			accepted++
		} else {
			rejected++
		}
	}
	if accepted < 1000 || rejected < 1000 {
		t.Error(accepted, rejected)
	}
}

// P27.1, P27.4

func TestRandomClauses(t *testing.T) {
	r := rand.New(rand.NewSource(3))
	some := 0
	for range 10000 {
		f := formula(1 + r.Intn(5))
		for range r.Intn(12) {
			f.Clauses = append(f.Clauses, random(r, f.Variables, 3))
		}
		clause := random(r, f.Variables, 3)
		want := follows(f.Clauses, clause)
		if is, e := proof.Follows(f, clause...); is != want || e != api.OK {
			t.Fatal(f, clause, is, e)
		}
		if !want {
			continue
		}
		some++
		// It has a literal in every model.
		for k := range 1 << f.Variables {
			holds := func(clause []int) bool {
				return slices.ContainsFunc(clause, func(x int) bool { return x > 0 == (k>>(max(x, -x)-1)&1 == 1) })
			}
			if !slices.ContainsFunc(f.Clauses, func(l []int) bool { return !holds(l) }) && !holds(clause) {
				t.Fatal(f, clause, k)
			}
		}
	}
	if some < 2000 {
		t.Error(some)
	}
}

// P27.2

func TestProofsOfTheSolver(t *testing.T) {
	r := rand.New(rand.NewSource(4))
	some := 0
	for range 60 {
		f := formula(8 + r.Intn(6))
		for len(f.Clauses) < 6*f.Variables {
			if clause := random(r, f.Variables, 3); len(clause) == 3 {
				f.Clauses = append(f.Clauses, clause)
			}
		}
		a, _ := solver.Solve(f, nil, api.MaxConflicts)
		if a.Kind != api.AnswerProof {
			continue
		}
		some++
		if !proof.Check(f, a.Proof) {
			t.Fatal(f, a.Proof)
		}
		if l, e := proof.Trim(f, a.Proof); !equal(l, trimmed(f.Clauses, a.Proof)) || e != api.OK {
			t.Fatal(f, a.Proof, l, e)
		}
		if l, e := proof.Core(f, a.Proof); !slices.Equal(l, core(f.Clauses, a.Proof)) || e != api.OK {
			t.Fatal(f, a.Proof, l, e)
		}
	}
	if some < 30 {
		t.Error(some)
	}
}
