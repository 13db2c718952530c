package bitvec_test

import (
	"math"
	"slices"
	"testing"

	"assessor/api"
	"assessor/bitvec"
)

// table returns an empty table.
func table(t *testing.T, width int) *bitvec.Table {
	t.Helper()
	b, e := bitvec.New(width)
	if b == nil || e != api.OK {
		t.Fatal(width, e)
	}
	return b
}

// term is a node.
func term(op, value int, args ...int) api.Term {
	x := api.Term{Op: op, Value: value}
	copy(x.Args[:], args)
	return x
}

// add makes a node that the table can have.
func add(t *testing.T, b *bitvec.Table, op, value int, args ...int) int {
	t.Helper()
	i, e := b.Make(term(op, value, args...))
	if e != api.OK {
		t.Fatal(op, value, args, e)
	}
	return i
}

// wrapped returns an integer of a width by counting.
func wrapped(width, n int) int {
	size := 1 << width
	n = (n%size + size) % size
	if n >= size/2 {
		n -= size
	}
	return n
}

// P22.1

func TestNew(t *testing.T) {
	for width := -1; width < 12; width++ {
		b, e := bitvec.New(width)
		if width < api.MinWidth || width > api.MaxWidth {
			if b != nil || e != api.ErrArg {
				t.Error(width, b, e)
			}
			continue
		}
		if e != api.OK || b.Width() != width || b.Len() != 0 {
			t.Error(width, b, e)
		}
	}
	for _, width := range []int{math.MinInt, math.MaxInt} {
		if b, e := bitvec.New(width); b != nil || e != api.ErrArg {
			t.Error(width, b, e)
		}
	}
}

func TestMake(t *testing.T) {
	b := table(t, 3)
	for i, x := range []struct {
		x    api.Term
		sort int
	}{
		{term(api.OpInput, 0), api.SortInt}, {term(api.OpNumber, 1), api.SortInt}, {term(api.OpAdd, 0, 0, 1), api.SortInt}, {term(api.OpFlag, 0), api.SortBool}, {term(api.OpTruth, 0), api.SortBool}, {term(api.OpTruth, 1), api.SortBool},
		{term(api.OpNumber, 0), api.SortInt}, {term(api.OpNumber, -4), api.SortInt}, {term(api.OpNumber, 3), api.SortInt}, {term(api.OpInput, 23), api.SortInt}, {term(api.OpFlag, 23), api.SortBool}, {term(api.OpNeg, 0, 0), api.SortInt}, {term(api.OpNeg, 0, 11), api.SortInt},
		{term(api.OpAdd, 0, 1, 0), api.SortInt}, {term(api.OpAdd, 0, 0, 0), api.SortInt}, {term(api.OpSub, 0, 0, 1), api.SortInt}, {term(api.OpMul, 0, 0, 1), api.SortInt}, {term(api.OpDiv, 0, 0, 1), api.SortInt}, {term(api.OpRem, 0, 0, 1), api.SortInt},
		{term(api.OpNot, 0, 3), api.SortBool}, {term(api.OpAnd, 0, 3, 4), api.SortBool}, {term(api.OpOr, 0, 3, 4), api.SortBool}, {term(api.OpSame, 0, 3, 4), api.SortBool}, {term(api.OpPick, 0, 3, 4, 5), api.SortBool}, {term(api.OpChoose, 0, 3, 0, 1), api.SortInt}, {term(api.OpEqual, 0, 0, 1), api.SortBool}, {term(api.OpLess, 0, 0, 1), api.SortBool},
	} {
		for range 2 {
			if n, e := b.Make(x.x); n != i || e != api.OK || b.Len() != i+1 {
				t.Error(i, x.x, n, e, b.Len())
			}
		}
		if n, ok := b.Node(i); n != x.x || !ok {
			t.Error(i, x.x, n, ok)
		}
		if s, ok := b.Sort(i); s != x.sort || !ok {
			t.Error(i, x.x, s, ok)
		}
	}
	for _, i := range []int{-1, b.Len(), math.MinInt, math.MaxInt} {
		if x, ok := b.Node(i); x != (api.Term{}) || ok {
			t.Error(i, x, ok)
		}
		if s, ok := b.Sort(i); s != 0 || ok {
			t.Error(i, s, ok)
		}
	}
}

func TestNodesThatCannotBe(t *testing.T) {
	b := table(t, 4)
	// 0 and 1 are integers, 2 and 3 conditions.
	add(t, b, api.OpInput, 1)
	add(t, b, api.OpNumber, 5)
	add(t, b, api.OpFlag, 2)
	add(t, b, api.OpTruth, 1)
	for _, x := range []api.Term{
		term(-1, 0), term(api.OpLess+1, 0, 0, 1), term(math.MinInt, 0), term(math.MaxInt, 0),
		term(api.OpInput, -1), term(api.OpInput, api.MaxScalars), term(api.OpInput, math.MaxInt), term(api.OpFlag, -1), term(api.OpFlag, api.MaxScalars), term(api.OpFlag, math.MinInt),
		term(api.OpNumber, 8), term(api.OpNumber, -9), term(api.OpNumber, 16), term(api.OpNumber, math.MinInt), term(api.OpNumber, math.MaxInt), term(api.OpTruth, 2), term(api.OpTruth, -1), term(api.OpTruth, math.MinInt),
		term(api.OpInput, 1, 1), term(api.OpInput, 1, 0, 1), term(api.OpFlag, 1, 0, 0, 1), term(api.OpNumber, 5, 1), term(api.OpTruth, 1, -1),
		term(api.OpNeg, 1, 0), term(api.OpNeg, 0, 2), term(api.OpNeg, 0, 4), term(api.OpNeg, 0, -1), term(api.OpNeg, 0, 0, 1), term(api.OpNeg, 0, 0, 0, 1), term(api.OpNeg, 0, math.MaxInt), term(api.OpNeg, 0, math.MinInt),
		term(api.OpNot, 1, 2), term(api.OpNot, 0, 0), term(api.OpNot, 0, 4), term(api.OpNot, 0, -1), term(api.OpNot, 0, 2, 2), term(api.OpNot, 0, 2, 0, 3), term(api.OpNot, -1, 2),
		term(api.OpChoose, 0, 2, 0, 2), term(api.OpChoose, 0, 2, 3, 0), term(api.OpChoose, 0, 0, 1, 1), term(api.OpChoose, 0, 4, 0, 1), term(api.OpChoose, 0, 2, 0, 4), term(api.OpChoose, 0, 2, 0, -1), term(api.OpChoose, 1, 2, 0, 1),
		term(api.OpPick, 0, 2, 2, 0), term(api.OpPick, 0, 2, 0, 2), term(api.OpPick, 0, 0, 2, 2), term(api.OpPick, 0, 2, 2, 4), term(api.OpPick, 0, -1, 2, 2), term(api.OpPick, 1, 2, 2, 2),
	} {
		if i, e := b.Make(x); i != 0 || e != api.ErrArg || b.Len() != 4 {
			t.Error(x, i, e, b.Len())
		}
	}
	for _, op := range []int{api.OpAdd, api.OpSub, api.OpMul, api.OpDiv, api.OpRem, api.OpEqual, api.OpLess, api.OpAnd, api.OpOr, api.OpSame} {
		good, bad := 1, 2
		if op == api.OpAnd || op == api.OpOr || op == api.OpSame {
			good, bad = bad, good
		}
		for _, x := range []api.Term{term(op, 0, good, bad), term(op, 0, bad, good), term(op, 0, good, 4), term(op, 0, 4, good), term(op, 0, -1, good), term(op, 0, good, -1), term(op, 0, good, good, 1), term(op, 0, good, good, -1), term(op, 1, good, good)} {
			if i, e := b.Make(x); i != 0 || e != api.ErrArg || b.Len() != 4 {
				t.Error(x, i, e, b.Len())
			}
		}
		if _, e := b.Make(term(op, 0, good, good)); e != api.OK {
			t.Error(op, e)
		}
		b = table(t, 4)
		add(t, b, api.OpInput, 1)
		add(t, b, api.OpNumber, 5)
		add(t, b, api.OpFlag, 2)
		add(t, b, api.OpTruth, 1)
	}
}

func TestArgumentsComeBefore(t *testing.T) {
	b := table(t, 4)
	for _, x := range []api.Term{term(api.OpNeg, 0), term(api.OpNot, 0), term(api.OpAdd, 0), term(api.OpChoose, 0)} {
		if i, e := b.Make(x); i != 0 || e != api.ErrArg || b.Len() != 0 {
			t.Error(x, i, e)
		}
	}
	add(t, b, api.OpInput, 0)
	// A node is not before itself.
	if _, e := b.Make(term(api.OpNeg, 0, 1)); e != api.ErrArg {
		t.Error(e)
	}
	if i := add(t, b, api.OpNeg, 0, 0); i != 1 {
		t.Error(i)
	}
}

func TestNumbersOfAllWidths(t *testing.T) {
	for width := api.MinWidth; width <= api.MaxWidth; width++ {
		b := table(t, width)
		size := 1 << width
		for n := -size; n <= size; n++ {
			_, e := b.Make(term(api.OpNumber, n))
			if n == wrapped(width, n) && e != api.OK || n != wrapped(width, n) && e != api.ErrArg {
				t.Error(width, n, e)
			}
		}
		if b.Len() != size {
			t.Error(width, b.Len())
		}
	}
}

// full returns a table with MaxTerms nodes, of which each but the first one is the double of the node before it.
func full(t *testing.T, width int) *bitvec.Table {
	t.Helper()
	b := table(t, width)
	add(t, b, api.OpInput, 7)
	for i := range api.MaxTerms - 1 {
		if k := add(t, b, api.OpAdd, 0, i, i); k != i+1 {
			t.Fatal(k, i)
		}
	}
	return b
}

func TestFullTables(t *testing.T) {
	b := full(t, 8)
	for _, x := range []struct {
		x    api.Term
		want int
		e    api.Errno
	}{
		{term(api.OpInput, 7), 0, api.OK}, {term(api.OpAdd, 0, 5, 5), 6, api.OK}, {term(api.OpAdd, 0, api.MaxTerms-2, api.MaxTerms-2), api.MaxTerms - 1, api.OK}, {term(api.OpAdd, 0, api.MaxTerms-1, api.MaxTerms-1), 0, api.ErrTooLarge},
		{term(api.OpInput, 8), 0, api.ErrTooLarge}, {term(api.OpTruth, 0), 0, api.ErrTooLarge}, {term(api.OpTruth, 2), 0, api.ErrArg}, {term(api.OpAdd, 0, 0, api.MaxTerms), 0, api.ErrArg}, {term(api.OpNot, 0, 0), 0, api.ErrArg},
	} {
		if i, e := b.Make(x.x); i != x.want || e != x.e || b.Len() != api.MaxTerms {
			t.Error(x.x, i, e, b.Len())
		}
	}
	last := api.MaxTerms - 1
	if n, e := b.Eval(last, []int{0, 0, 0, 0, 0, 0, 0, 1}); n != 0 || e != api.OK {
		t.Error(n, e)
	}
	if n, e := b.Eval(6, []int{0, 0, 0, 0, 0, 0, 0, 1}); n != 64 || e != api.OK {
		t.Error(n, e)
	}
	if n, l := b.Size(last), b.Inputs(last); n != api.MaxTerms || !slices.Equal(l, []int{7}) {
		t.Error(n, l)
	}
}

func TestTablesAreApart(t *testing.T) {
	a, b := table(t, 3), table(t, 3)
	add(t, a, api.OpInput, 0)
	if i := add(t, b, api.OpInput, 1); i != 0 || a.Len() != 1 || b.Len() != 1 {
		t.Error(i, a.Len(), b.Len())
	}
	if x, _ := a.Node(0); x != term(api.OpInput, 0) {
		t.Error(x)
	}
	// A table that New did not make has nothing.
	var none bitvec.Table
	for _, x := range []api.Term{term(api.OpInput, 0), term(api.OpNumber, 0), term(api.OpTruth, 1), term(api.OpNeg, 0)} {
		if i, e := none.Make(x); i != 0 || e != api.ErrArg || none.Len() != 0 || none.Width() != 0 {
			t.Error(x, i, e)
		}
	}
}

// P22.2

func TestExample(t *testing.T) {
	b := table(t, 3)
	x, one := add(t, b, api.OpInput, 0), add(t, b, api.OpNumber, 1)
	sum := add(t, b, api.OpAdd, 0, x, one)
	if n, e := b.Eval(sum, []int{3}); x != 0 || one != 1 || sum != 2 || n != -4 || e != api.OK {
		t.Error(x, one, sum, n, e)
	}
}

// meaning returns the value of an operator on two integers by the chapter's table.
func meaning(width, op, a, b int) int {
	switch op {
	case api.OpNeg:
		return wrapped(width, -a)
	case api.OpAdd:
		return wrapped(width, a+b)
	case api.OpSub:
		return wrapped(width, a-b)
	case api.OpMul:
		return wrapped(width, a*b)
	case api.OpDiv:
		if b == 0 {
			return 0
		}
		return wrapped(width, a/b)
	case api.OpRem:
		if b == 0 {
			return a
		}
		return a - b*(a/b)
	case api.OpEqual:
		if a == b {
			return 1
		}
		return 0
	}
	if a < b {
		return 1
	}
	return 0
}

func TestOperatorsOnIntegers(t *testing.T) {
	for width := api.MinWidth; width <= api.MaxWidth; width++ {
		b := table(t, width)
		x, y := add(t, b, api.OpInput, 0), add(t, b, api.OpInput, 1)
		nodes := map[int]int{api.OpNeg: add(t, b, api.OpNeg, 0, x)}
		for _, op := range []int{api.OpAdd, api.OpSub, api.OpMul, api.OpDiv, api.OpRem, api.OpEqual, api.OpLess} {
			nodes[op] = add(t, b, op, 0, x, y)
		}
		least := -1 << (width - 1)
		for i := least; i < -least; i++ {
			for k := least; k < -least; k++ {
				for op, node := range nodes {
					if n, e := b.Eval(node, []int{i, k}); n != meaning(width, op, i, k) || e != api.OK {
						t.Fatal(width, op, i, k, n, e)
					}
				}
			}
		}
	}
}

func TestOperatorsOnConditions(t *testing.T) {
	b := table(t, 2)
	p, q, r := add(t, b, api.OpFlag, 0), add(t, b, api.OpFlag, 1), add(t, b, api.OpFlag, 2)
	one, two := add(t, b, api.OpNumber, 1), add(t, b, api.OpNumber, -2)
	not, and, or, same := add(t, b, api.OpNot, 0, p), add(t, b, api.OpAnd, 0, p, q), add(t, b, api.OpOr, 0, p, q), add(t, b, api.OpSame, 0, p, q)
	pick, choose := add(t, b, api.OpPick, 0, p, q, r), add(t, b, api.OpChoose, 0, p, one, two)
	for i := range 8 {
		l := []int{i >> 2, i >> 1 & 1, i & 1}
		picked, chosen := l[2], -2
		if l[0] == 1 {
			picked, chosen = l[1], 1
		}
		for node, want := range map[int]int{p: l[0], r: l[2], not: 1 - l[0], and: l[0] * l[1], or: max(l[0], l[1]), same: 1 - (l[0] ^ l[1]), pick: picked, choose: chosen, one: 1, two: -2} {
			if n, e := b.Eval(node, l); n != want || e != api.OK {
				t.Error(l, node, n, want, e)
			}
		}
	}
}

func TestInputsThatDoNotFit(t *testing.T) {
	b := table(t, 3)
	x, p := add(t, b, api.OpInput, 1), add(t, b, api.OpFlag, 2)
	number := add(t, b, api.OpNumber, -3)
	// The input 1 is also used as a condition.
	q := add(t, b, api.OpFlag, 1)
	choice := add(t, b, api.OpChoose, 0, p, x, number)
	both := add(t, b, api.OpChoose, 0, q, x, number)
	for _, c := range []struct {
		node  int
		input []int
		want  int
		e     api.Errno
	}{
		{x, []int{99, 3}, 3, api.OK}, {x, []int{99, -4, 99}, -4, api.OK}, {x, []int{99, 4}, 0, api.ErrRange}, {x, []int{99, -5}, 0, api.ErrRange}, {x, []int{99}, 0, api.ErrRange}, {x, nil, 0, api.ErrRange}, {x, []int{0, math.MaxInt}, 0, api.ErrRange}, {x, []int{0, math.MinInt}, 0, api.ErrRange},
		{p, []int{99, 99, 1}, 1, api.OK}, {p, []int{99, 99, 0, 99}, 0, api.OK}, {p, []int{99, 99, 2}, 0, api.ErrRange}, {p, []int{99, 99, -1}, 0, api.ErrRange}, {p, []int{1, 1}, 0, api.ErrRange}, {p, nil, 0, api.ErrRange},
		{number, nil, -3, api.OK}, {number, []int{99}, -3, api.OK},
		// All nodes of a node count, not only those that decide.
		{choice, []int{0, 2, 1}, 2, api.OK}, {choice, []int{0, 2, 0}, -3, api.OK}, {choice, []int{0, 4, 0}, 0, api.ErrRange}, {choice, []int{0, 2, 2}, 0, api.ErrRange}, {choice, []int{0, 2}, 0, api.ErrRange},
		{both, []int{0, 1}, 1, api.OK}, {both, []int{0, 0}, -3, api.OK}, {both, []int{0, 2}, 0, api.ErrRange}, {both, []int{0, -1}, 0, api.ErrRange},
		{-1, []int{0, 1, 1}, 0, api.ErrArg}, {b.Len(), []int{0, 1, 1}, 0, api.ErrArg}, {math.MinInt, nil, 0, api.ErrArg}, {math.MaxInt, nil, 0, api.ErrArg},
	} {
		if n, e := b.Eval(c.node, c.input); n != c.want || e != c.e {
			t.Error(c.node, c.input, n, e)
		}
	}
}

func TestInputsAndSize(t *testing.T) {
	b := table(t, 3)
	x, y, p, q := add(t, b, api.OpInput, 9), add(t, b, api.OpInput, 4), add(t, b, api.OpFlag, 4), add(t, b, api.OpFlag, 0)
	number, truth := add(t, b, api.OpNumber, 2), add(t, b, api.OpTruth, 1)
	sum := add(t, b, api.OpAdd, 0, x, y)
	double := add(t, b, api.OpAdd, 0, sum, sum)
	less := add(t, b, api.OpLess, 0, double, number)
	pick := add(t, b, api.OpPick, 0, less, q, truth)
	choose := add(t, b, api.OpChoose, 0, pick, x, x)
	neg := add(t, b, api.OpNeg, 0, y)
	for _, c := range []struct {
		node   int
		inputs []int
		size   int
	}{
		{x, []int{9}, 1}, {y, []int{4}, 1}, {p, []int{4}, 1}, {q, []int{0}, 1}, {number, nil, 1}, {truth, nil, 1}, {sum, []int{4, 9}, 3}, {double, []int{4, 9}, 4}, {less, []int{4, 9}, 6}, {pick, []int{0, 4, 9}, 9}, {choose, []int{0, 4, 9}, 10}, {neg, []int{4}, 2},
		{add(t, b, api.OpChoose, 0, p, y, number), []int{4}, 4}, {add(t, b, api.OpAnd, 0, p, q), []int{0, 4}, 3},
		{-1, nil, 0}, {b.Len(), nil, 0}, {math.MinInt, nil, 0}, {math.MaxInt, nil, 0},
	} {
		if l, n := b.Inputs(c.node), b.Size(c.node); !slices.Equal(l, c.inputs) || n != c.size {
			t.Error(c.node, l, n)
		}
	}
}

// P22.3

func TestWrap(t *testing.T) {
	for width := api.MinWidth; width <= api.MaxWidth; width++ {
		for n := -1000; n <= 1000; n++ {
			if got := bitvec.Wrap(width, n); got != wrapped(width, n) {
				t.Error(width, n, got)
			}
		}
		half := 1 << (width - 1)
		for n, want := range map[int]int{math.MaxInt: -1, math.MinInt: 0, math.MaxInt - 1: -2, math.MinInt + 1: 1, math.MaxInt - half: half - 1, math.MinInt + half: -half, 1 << 40: 0, 1<<40 + 1: 1} {
			if got := bitvec.Wrap(width, n); got != want {
				t.Error(width, n, got, want)
			}
		}
	}
	if n := bitvec.Wrap(3, 5); n != -3 {
		t.Error(n)
	}
}

func TestDivide(t *testing.T) {
	for _, x := range []struct{ width, a, b, quotient, remainder int }{
		{3, -4, -1, -4, 0}, {3, -4, 3, -1, -1}, {3, 3, -2, -1, 1}, {3, -3, 2, -1, -1}, {3, 3, 0, 0, 3}, {3, -4, 0, 0, -4}, {3, 0, 0, 0, 0}, {8, -128, -1, -128, 0}, {8, 127, 10, 12, 7}, {8, -127, 10, -12, -7}, {2, -2, -1, -2, 0}, {2, 1, -2, 0, 1},
		// The numbers are wrapped first.
		{3, 5, 2, -1, -1}, {3, 3, 10, 1, 1}, {3, 7, 8, 0, -1}, {3, 12, 7, -4, 0}, {4, math.MaxInt, math.MinInt, 0, -1}, {4, math.MinInt, math.MaxInt, 0, 0},
	} {
		if q, r := bitvec.Divide(x.width, x.a, x.b); q != x.quotient || r != x.remainder {
			t.Error(x, q, r)
		}
	}
	for width := api.MinWidth; width <= api.MaxWidth; width++ {
		for a := -140; a <= 140; a++ {
			for b := -140; b <= 140; b++ {
				q, r := bitvec.Divide(width, a, b)
				i, k := wrapped(width, a), wrapped(width, b)
				if q != meaning(width, api.OpDiv, i, k) || r != meaning(width, api.OpRem, i, k) {
					t.Fatal(width, a, b, q, r)
				}
			}
		}
	}
}

func TestOtherWidths(t *testing.T) {
	for _, width := range []int{1, 0, -1, 9, 64, 65, math.MinInt, math.MaxInt} {
		for _, n := range []int{0, 1, -1, 5, math.MinInt, math.MaxInt} {
			q, r := bitvec.Divide(width, n, 3)
			zero, rest := bitvec.Divide(width, n, 0)
			if w := bitvec.Wrap(width, n); w != 0 || q != 0 || r != 0 || zero != 0 || rest != 0 {
				t.Error(width, n, w, q, r, zero, rest)
			}
		}
	}
}
