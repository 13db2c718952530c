package blast_test

import (
	"math"
	"slices"
	"testing"

	"assessor/api"
	"assessor/bitvec"
	"assessor/blast"
	"assessor/gates"
)

// table returns an empty table.
func table(t *testing.T, width int) *bitvec.Table {
	t.Helper()
	b, e := bitvec.New(width)
	if e != api.OK {
		t.Fatal(width, e)
	}
	return b
}

// add makes a node.
func add(t *testing.T, b *bitvec.Table, op, value int, args ...int) int {
	t.Helper()
	x := api.Term{Op: op, Value: value}
	copy(x.Args[:], args)
	i, e := b.Make(x)
	if e != api.OK {
		t.Fatal(x, e)
	}
	return i
}

// results returns the values of words for some inputs.
func results(t *testing.T, g api.Gates, width int, sorts, input, rootSorts []int, words [][]int) []int {
	t.Helper()
	bits, e := blast.Bits(width, sorts, input)
	if e != api.OK {
		t.Fatal(width, sorts, input, e)
	}
	var l []int
	for i, word := range words {
		values, e := gates.Eval(g, bits, word...)
		if e != api.OK {
			t.Fatal(g, word, e)
		}
		l = append(l, blast.Value(rootSorts[i], values))
	}
	return l
}

// agrees fails if words have not the values of some nodes for some inputs.
func agrees(t *testing.T, b *bitvec.Table, g api.Gates, sorts, input, roots []int, words [][]int) {
	t.Helper()
	var want, rootSorts []int
	for _, i := range roots {
		n, e := b.Eval(i, input)
		if e != api.OK {
			t.Fatal(i, input, e)
		}
		sort, _ := b.Sort(i)
		want, rootSorts = append(want, n), append(rootSorts, sort)
	}
	if l := results(t, g, b.Width(), sorts, input, rootSorts, words); !slices.Equal(l, want) {
		t.Fatal(sorts, input, roots, words, l, want)
	}
}

// P25.3

func TestBlastOfEachOperator(t *testing.T) {
	for _, width := range []int{2, 3} {
		b := table(t, width)
		x, y, p, q, o := add(t, b, api.OpInput, 0), add(t, b, api.OpInput, 2), add(t, b, api.OpFlag, 1), add(t, b, api.OpFlag, 4), add(t, b, api.OpFlag, 3)
		roots := []int{x, y, p, q, o, add(t, b, api.OpNumber, -2), add(t, b, api.OpTruth, 0), add(t, b, api.OpTruth, 1), add(t, b, api.OpNeg, 0, x)}
		for op := api.OpAdd; op <= api.OpRem; op++ {
			roots = append(roots, add(t, b, op, 0, x, y), add(t, b, op, 0, y, x), add(t, b, op, 0, x, x))
		}
		for _, op := range []int{api.OpEqual, api.OpLess} {
			roots = append(roots, add(t, b, op, 0, x, y), add(t, b, op, 0, y, x), add(t, b, op, 0, x, x))
		}
		for _, op := range []int{api.OpAnd, api.OpOr, api.OpSame} {
			roots = append(roots, add(t, b, op, 0, p, q), add(t, b, op, 0, q, p), add(t, b, op, 0, p, p))
		}
		roots = append(roots, add(t, b, api.OpChoose, 0, p, x, y), add(t, b, api.OpChoose, 0, p, y, x), add(t, b, api.OpNot, 0, p), add(t, b, api.OpPick, 0, p, q, o), add(t, b, api.OpPick, 0, q, o, p))
		sorts := []int{number, truth, number, truth, truth}
		g, words, e := blast.Blast(b, sorts, roots...)
		if e != api.OK || g.Inputs != 2*width+3 || !gates.Valid(g) || len(words) != len(roots) {
			t.Fatal(width, g, words, e)
		}
		half := 1 << (width - 1)
		for m := -half; m < half; m++ {
			for n := -half; n < half; n++ {
				for k := range 8 {
					agrees(t, b, g, sorts, []int{m, k & 1, n, k >> 1 & 1, k >> 2}, roots, words)
				}
			}
		}
	}
}

func TestWordsOfInputsAndConstants(t *testing.T) {
	b := table(t, 3)
	p, x := add(t, b, api.OpFlag, 0), add(t, b, api.OpInput, 1)
	five, yes, no := add(t, b, api.OpNumber, -3), add(t, b, api.OpTruth, 1), add(t, b, api.OpTruth, 0)
	g, words, e := blast.Blast(b, []int{truth, number, truth}, x, p, five, yes, no, x)
	if g.Inputs != 5 || len(g.Gates) > 0 || e != api.OK || !equalWords(words, [][]int{{4, 6, 8}, {2}, {1, 0, 1}, {1}, {0}, {4, 6, 8}}) {
		t.Error(g, words, e)
	}
	// A root that is there twice has two words.
	words[0][0] = 99
	if _, again, _ := blast.Blast(b, []int{truth, number, truth}, x, x); words[5][0] != 4 || !equalWords(again, [][]int{{4, 6, 8}, {4, 6, 8}}) {
		t.Error(words, again)
	}
	// Without roots there are only inputs.
	for _, sorts := range [][]int{nil, {number, number, truth}} {
		_, n, _ := blast.Words(3, sorts)
		if g, words, e := blast.Blast(b, sorts); g.Inputs != n || len(g.Gates) > 0 || len(words) > 0 || e != api.OK {
			t.Error(sorts, g, words, e)
		}
	}
	if g, words, e := blast.Blast(b, nil, five); g.Inputs > 0 || len(g.Gates) > 0 || e != api.OK || !equalWords(words, [][]int{{1, 0, 1}}) {
		t.Error(g, words, e)
	}
}

func TestNodesThatAreNotNeeded(t *testing.T) {
	b := table(t, 4)
	// Only these do not fit the sorts; Args that are not needed are 0, too.
	wrong := add(t, b, api.OpInput, 5)
	x, p := add(t, b, api.OpInput, 0), add(t, b, api.OpFlag, 1)
	add(t, b, api.OpMul, 0, x, wrong)
	roots := []int{add(t, b, api.OpNeg, 0, x), add(t, b, api.OpNot, 0, p), add(t, b, api.OpAdd, 0, x, x), add(t, b, api.OpNumber, 3), add(t, b, api.OpAnd, 0, p, p), add(t, b, api.OpChoose, 0, p, x, x)}
	sorts := []int{number, truth}
	g, words, e := blast.Blast(b, sorts, roots...)
	if e != api.OK {
		t.Fatal(e)
	}
	agrees(t, b, g, sorts, []int{-8, 1}, roots, words)
	// What no root needs makes no gates.
	g, words, e = blast.Blast(b, sorts, x)
	if len(g.Gates) > 0 || !equalWords(words, [][]int{{2, 4, 6, 8}}) || e != api.OK {
		t.Error(g, words, e)
	}
}

func TestWrongArgumentsOfBlast(t *testing.T) {
	b := table(t, 3)
	x, y, p := add(t, b, api.OpInput, 0), add(t, b, api.OpInput, api.MaxScalars-1), add(t, b, api.OpFlag, 1)
	s := add(t, b, api.OpSub, 0, x, y)
	l := add(t, b, api.OpLess, 0, s, x)
	c := add(t, b, api.OpChoose, 0, p, x, x)
	n := add(t, b, api.OpNeg, 0, x)
	full := make([]int, api.MaxScalars)
	full[1] = truth
	all := []int{x, y, p, s, l, c, n}
	if _, words, e := blast.Blast(b, full, all...); len(words) != len(all) || e != api.OK {
		t.Fatal(words, e)
	}
	other := slices.Clone(full)
	other[api.MaxScalars-1] = truth
	for i, z := range []struct{ sorts, roots []int }{
		{full, []int{-1}}, {full, []int{b.Len()}}, {full, []int{x, b.Len() + 1}}, {full, []int{math.MinInt, x}}, {full, []int{math.MaxInt}}, {nil, []int{b.Len()}},
		{[]int{2}, nil}, {[]int{number, -1}, []int{x}}, {make([]int, api.MaxScalars+1), nil}, {make([]int, api.MaxScalars+1), []int{x}},
		// An input that is not there, or has the other sort; by itself, or as a node of another one.
		{nil, []int{x}}, {[]int{truth}, []int{x}}, {full[:api.MaxScalars-1], []int{y}}, {other, []int{y}}, {full[:1], []int{p}}, {nil, []int{p}}, {make([]int, 2), []int{p}},
		{full[:api.MaxScalars-1], []int{s}}, {other, []int{l}}, {full[:1], []int{c}}, {[]int{truth, truth}, []int{c}}, {[]int{truth}, []int{n}}, {full[:3], []int{x, p, c, l}}, {make([]int, api.MaxScalars), all},
	} {
		if g, words, e := blast.Blast(b, z.sorts, z.roots...); g.Inputs != 0 || len(g.Gates) > 0 || len(words) > 0 || e != api.ErrArg {
			t.Error(i, g, words, e)
		}
	}
	// A table that New did not make has no width.
	var none bitvec.Table
	if g, words, e := blast.Blast(&none, nil); g.Inputs != 0 || len(words) > 0 || e != api.ErrArg {
		t.Error(g, words, e)
	}
}

// chain returns a table of products, each of which needs many gates, and the last one.
func chain(t *testing.T, count int) (*bitvec.Table, int) {
	t.Helper()
	b := table(t, 8)
	x, y := add(t, b, api.OpInput, 0), add(t, b, api.OpInput, 1)
	z := x
	for range count {
		z = add(t, b, api.OpMul, 0, z, y)
	}
	return b, z
}

func size(g api.Gates) int { return 1 + g.Inputs + len(g.Gates) }

func TestTheLargestCircuit(t *testing.T) {
	sorts := []int{number, number, truth, truth}
	b, last := chain(t, 2)
	less, _, _ := blast.Blast(b, sorts, last-1)
	more, _, e := blast.Blast(b, sorts, last)
	if e != api.OK {
		t.Fatal(e)
	}
	b, last = chain(t, (api.MaxVariables-size(less))/(size(more)-size(less)))
	g, _, e := blast.Blast(b, sorts, last)
	if e != api.OK || size(g) < api.MaxVariables-2000 {
		t.Fatal(size(g), e)
	}
	// Each of these nodes needs one gate more.
	p, q := add(t, b, api.OpFlag, 2), add(t, b, api.OpFlag, 3)
	z := add(t, b, api.OpAnd, 0, p, q)
	for n := size(g) + 1; n <= api.MaxVariables; n++ {
		p, q, z = q, p, add(t, b, api.OpAnd, 0, add(t, b, api.OpNot, 0, z), p)
		if n%64 > 0 && n < api.MaxVariables-2 {
			continue
		}
		g, words, e := blast.Blast(b, sorts, last, z)
		if n < api.MaxVariables && (size(g) != n+1 || e != api.OK || len(words) != 2 || !gates.Valid(g)) {
			t.Fatal(n, size(g), e)
		}
		if n == api.MaxVariables && (size(g) != 1 || len(words) > 0 || e != api.ErrTooLarge) {
			t.Fatal(n, size(g), e)
		}
	}
}

func TestTooLargeCircuits(t *testing.T) {
	b, last := chain(t, 2000)
	before := b.Len()
	sorts := []int{number, number}
	if g, words, e := blast.Blast(b, sorts, last); g.Inputs != 0 || len(g.Gates) > 0 || len(words) > 0 || e != api.ErrTooLarge {
		t.Error(size(g), words, e)
	}
	// The table is as before, and some of its nodes can be translated.
	if g, words, e := blast.Blast(b, sorts, 2, 50); len(words) != 2 || !gates.Valid(g) || e != api.OK || b.Len() != before {
		t.Error(size(g), words, e)
	}
	// What is wrong comes before what is too large.
	for i, z := range []struct{ sorts, roots []int }{{sorts, []int{last, b.Len()}}, {sorts, []int{last, add(t, b, api.OpFlag, 0)}}, {sorts, []int{add(t, b, api.OpAdd, 0, last, add(t, b, api.OpInput, 2))}}, {[]int{number, number, 3}, []int{last}}} {
		if g, words, e := blast.Blast(b, z.sorts, z.roots...); size(g) != 1 || len(words) > 0 || e != api.ErrArg {
			t.Error(i, size(g), words, e)
		}
	}
}

// P25.4

func TestGatesOfEachOperator(t *testing.T) {
	for width := api.MinWidth; width <= api.MaxWidth; width++ {
		for op := api.OpNeg; op <= api.OpLess; op++ {
			b := table(t, width)
			var args, sorts []int
			for k, sort := range argumentSorts(op) {
				sorts = append(sorts, sort)
				args = append(args, add(t, b, []int{api.OpInput, api.OpFlag}[sort], k))
			}
			root := add(t, b, op, 0, args...)
			g, _, e := blast.Blast(b, sorts, root)
			if e != api.OK || len(g.Gates) > 100*width*width*b.Len() {
				t.Error(width, op, len(g.Gates), e)
			}
		}
	}
}
