package certificate_test

import (
	"math/rand"
	"slices"
	"strings"
	"testing"

	"assessor/api"
	"assessor/certificate"
	"assessor/cnf"
	"assessor/exercise"
	"assessor/proof"
	"assessor/samples"
	"assessor/solver"
)

// model returns the literals of all nodes of a circuit for some inputs.
func (n *net) model(bits []bool) []int {
	values := append([]bool{false}, bits...)
	holds := func(x int) bool { return values[x/2] == (x%2 == 0) }
	for _, g := range n.gates {
		values = append(values, holds(g[0]) && holds(g[1]))
	}
	var l []int
	for i, is := range values {
		if is {
			l = append(l, i+1)
		} else {
			l = append(l, -i-1)
		}
	}
	return l
}

// input returns the scalars of some types with some bits.
func input(width int, types []api.Type, bits []bool) []int {
	var l []int
	for _, t := range types {
		n, sign := 0, width-1
		for k := range width {
			if k > 0 && t.Kind == api.TypeBool {
				break
			}
			if bits[0] && k == sign {
				n -= 1 << k
			} else if bits[0] {
				n += 1 << k
			}
			bits = bits[1:]
		}
		l = append(l, n)
	}
	return l
}

// isWrong reports whether a submission is not right on an input that is in the domain and relevant.
func isWrong(s *exercise.Submission, input []int) bool {
	c, e := s.Try(input)
	return e == api.OK && c.Relevant && !c.Right
}

// patterns returns bits: all that there are, or some of them.
func patterns(r *rand.Rand, count int) [][]bool {
	var l [][]bool
	for k := range 1 << min(count, 6) {
		var bits []bool
		for i := range count {
			bits = append(bits, k>>min(i, 62)&1 == 1)
		}
		if count > 6 {
			for i := range bits {
				bits[i] = r.Intn(4) == 0
			}
		}
		l = append(l, bits)
	}
	return l
}

// P30.1, P30.4

func TestFormulasLikeTheChapter(t *testing.T) {
	r := rand.New(rand.NewSource(1))
	count := map[string]int{}
	for range 500 {
		x, _, ok := samples.Exercise(r)
		if !ok {
			continue
		}
		source := samples.Changed(r, x.Source)
		task, e := exercise.New(x)
		var s *exercise.Submission
		if e == api.OK {
			s, _, e = task.Submit(source)
		}
		f, got := certificate.Formula(x, source)
		if e != api.OK {
			if got != e || f.Variables != 0 || len(f.Clauses) > 0 {
				t.Fatal(x, source, got, e)
			}
			count["error"]++
			continue
		}
		n, w := built(x, source)
		want := n.translated(w)
		if got != api.OK || !equal(f, want) {
			t.Fatal(x, source, f.Variables, want.Variables, got)
		}
		count[map[bool]string{true: "large", false: "small"}[f.Variables > 500]]++
		if f.Variables > 5000 {
			continue
		}
		types := scalars(x)
		for i, bits := range patterns(r, n.inputs) {
			m, in := n.model(bits), input(x.Bounds.Width, types, bits)
			wrong := isWrong(s, in)
			if cnf.Holds(f, m) != wrong {
				t.Fatal(x, source, in, wrong)
			}
			if i < 2 {
				if got, e := certificate.Input(x, m); !slices.Equal(got, in) || e != api.OK {
					t.Fatal(x, bits, got, in, e)
				}
			}
			count[map[bool]string{true: "wrong", false: "right"}[wrong]]++
		}
	}
	for _, name := range []string{"error", "large", "small", "wrong", "right"} {
		if count[name] < 70 {
			t.Error(name, count)
		}
	}
}

// P30.2, P30.3, P30.4

func TestCertificatesOfSubmissions(t *testing.T) {
	r := rand.New(rand.NewSource(2))
	correct, wrong := 0, 0
	for range 250 {
		x, _, ok := samples.Exercise(r)
		if !ok {
			continue
		}
		source := samples.Changed(r, x.Source)
		f, e := certificate.Formula(x, source)
		if e != api.OK || f.Variables > 3000 {
			continue
		}
		task, _ := exercise.New(x)
		s, _, _ := task.Submit(source)
		a, _ := solver.Solve(f, nil, api.MaxConflicts)
		_, isFound := s.Search(0)
		if (a.Kind == api.AnswerModel) != isFound || (a.Kind == api.AnswerProof) == isFound {
			t.Fatal(x, source, a.Kind, isFound)
		}
		if isFound {
			wrong++
			in, e := certificate.Input(x, a.Model)
			if e != api.OK || !isWrong(s, in) {
				t.Fatal(x, source, in, e)
			}
			if text, e := certificate.Make(x, source, [][]int{nil}); text != "" || e != api.ErrState {
				t.Fatal(x, source, text, e)
			}
			continue
		}
		correct++
		text, e := certificate.Make(x, source, a.Proof)
		if e != api.OK || !certificate.Check(x, source, text) {
			t.Fatal(x, source, text, e)
		}
		c, e := certificate.Parse(text)
		if e != api.OK || c.Digest != exercise.Digest(x, source) || c.Variables != f.Variables || c.Clauses != len(f.Clauses) || !slices.EqualFunc(c.Proof, a.Proof, slices.Equal) {
			t.Fatal(x, source, text, e)
		}
		spoiled(t, r, x, source, text, f)
	}
	if correct < 40 || wrong < 40 {
		t.Error(correct, wrong)
	}
}

// spoiled checks that changed certificates are accepted only if they still have a proof.
func spoiled(t *testing.T, r *rand.Rand, x api.Exercise, source, text string, f api.Formula) {
	t.Helper()
	first, rest, _ := strings.Cut(text, "\n")
	for range 10 {
		at := r.Intn(len(first))
		changed := first[:at] + string("0123456789abcdef -"[r.Intn(18)]) + first[at+1:]
		if changed != first && certificate.Check(x, source, changed+"\n"+rest) {
			t.Fatal(x, source, changed)
		}
	}
	lines := strings.SplitAfter(rest, "\n")
	for range 5 {
		at := r.Intn(len(lines))
		changed := strings.Join(slices.Delete(slices.Clone(lines), at, at+1), "")
		steps, _ := proof.Parse(changed)
		if certificate.Check(x, source, first+"\n"+changed) != proof.Check(f, steps) {
			t.Fatal(x, source, changed)
		}
	}
	if certificate.Check(x, source+" ", text) || certificate.Check(x, source+"#", text) {
		t.Fatal(x, source)
	}
	other := x
	other.Source += " "
	if certificate.Check(other, source, text) {
		t.Fatal(x, source)
	}
}

// equal reports whether two formulas are equal.
func equal(f, g api.Formula) bool {
	return f.Variables == g.Variables && slices.EqualFunc(f.Clauses, g.Clauses, slices.Equal[[]int])
}
