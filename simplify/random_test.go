package simplify_test

import (
	"math/rand"
	"slices"
	"testing"

	"assessor/api"
	"assessor/bitvec"
	"assessor/simplify"
)

// random makes a table with random nodes; the inputs with even numbers are integers.
func random(t *testing.T, r *rand.Rand) *bitvec.Table {
	t.Helper()
	width := api.MinWidth + r.Intn(api.MaxWidth-api.MinWidth+1)
	half := 1 << (width - 1)
	b := table(t, width)
	for i := range 1 + r.Intn(4) {
		add(t, b, api.OpInput, 2*i)
		add(t, b, api.OpFlag, 2*i+1)
	}
	for _, n := range []int{0, 1, -1, half - 1, -half} {
		if r.Intn(2) == 0 {
			add(t, b, api.OpNumber, n)
		}
	}
	for n := range 2 {
		if r.Intn(2) == 0 {
			add(t, b, api.OpTruth, n)
		}
	}
	for range 10 + r.Intn(80) {
		op := api.OpNeg + r.Intn(api.OpLess-api.OpNeg+1)
		s := sorts(op)
		args := make([]int, len(s)-1)
		ok := true
		for k := range args {
			args[k] = r.Intn(b.Len())
			sort, _ := b.Sort(args[k])
			ok = ok && sort == s[k]
		}
		if ok {
			add(t, b, op, 0, args...)
		}
	}
	return b
}

// inputs returns random inputs for a table that random made.
func inputs(r *rand.Rand, width int) []int {
	var l []int
	for i := range 8 {
		n := r.Intn(2)
		if i%2 == 0 {
			n = bitvec.Wrap(width, r.Intn(256))
		}
		l = append(l, n)
	}
	return l
}

func TestSimplifyRandomTerms(t *testing.T) {
	r := rand.New(rand.NewSource(1))
	laws := laws()
	for range 400 {
		b := random(t, r)
		before := nodes(b)
		for i := range before {
			k := simplified(t, b, i)
			count := b.Len()
			if want := (reference{b, laws}).simplified(i); k != want || b.Len() != count {
				t.Fatal(nodes(b), i, k, want)
			}
		}
		if after := nodes(b); !slices.Equal(after[:len(before)], before) {
			t.Fatal(before, after)
		}
	}
}

// P23.3

func TestSimplifiedNodes(t *testing.T) {
	r := rand.New(rand.NewSource(2))
	for range 400 {
		b := random(t, r)
		for i := range b.Len() {
			k := simplified(t, b, i)
			count := b.Len()
			if again := simplified(t, b, k); again != k || b.Len() != count {
				t.Fatal(nodes(b), i, k, again)
			}
			if b.Size(k) > b.Size(i) {
				t.Fatal(nodes(b), i, k)
			}
			old := b.Inputs(i)
			for _, n := range b.Inputs(k) {
				if !slices.Contains(old, n) {
					t.Fatal(nodes(b), i, k, n)
				}
			}
			if _, ok := simplify.Constant(b, k); len(old) == 0 && !ok {
				t.Fatal(nodes(b), i, k)
			}
			for range 20 {
				l := inputs(r, b.Width())
				n, e := b.Eval(i, l)
				if m, f := b.Eval(k, l); m != n || e != api.OK || f != api.OK {
					t.Fatal(nodes(b), i, k, l, n, m)
				}
			}
		}
	}
}

func TestAppliedNodes(t *testing.T) {
	r := rand.New(rand.NewSource(3))
	for _, width := range []int{2, 3, 8} {
		original, l := pool(t, width)
		for op := api.OpNeg; op <= api.OpLess; op++ {
			s := sorts(op)
			for _, args := range choices(l, s[:len(s)-1]) {
				b := remade(original)
				i := add(t, b, op, 0, args...)
				k := apply(t, b, op, args...)
				for range 10 {
					input := inputs(r, width)
					input = []int{input[0], input[2], input[1], input[3]}
					n, e := b.Eval(i, input)
					if m, f := b.Eval(k, input); m != n || e != api.OK || f != api.OK {
						t.Fatal(width, op, args, input, n, m)
					}
				}
			}
		}
	}
}

func TestArgumentsAreLeftAlone(t *testing.T) {
	b := table(t, 4)
	p, x, y := add(t, b, api.OpFlag, 0), add(t, b, api.OpInput, 1), add(t, b, api.OpInput, 2)
	args := []int{add(t, b, api.OpNot, 0, p), x, y}
	before := slices.Clone(args)
	if i := apply(t, b, api.OpChoose, args...); i != add(t, b, api.OpChoose, 0, p, y, x) || !slices.Equal(args, before) {
		t.Error(i, args)
	}
}
