package simplify_test

import (
	"math"
	"testing"

	"assessor/api"
	"assessor/bitvec"
	"assessor/simplify"
)

// table returns an empty table.
func table(t *testing.T, width int) *bitvec.Table {
	t.Helper()
	b, e := bitvec.New(width)
	if e != api.OK {
		t.Fatal(width, e)
	}
	return b
}

// add makes a node.
func add(t *testing.T, b *bitvec.Table, op, value int, args ...int) int {
	t.Helper()
	x := api.Term{Op: op, Value: value}
	copy(x.Args[:], args)
	i, e := b.Make(x)
	if e != api.OK {
		t.Fatal(x, e)
	}
	return i
}

// apply returns an application that there is.
func apply(t *testing.T, b *bitvec.Table, op int, args ...int) int {
	t.Helper()
	i, e := simplify.Apply(b, op, args...)
	if e != api.OK {
		t.Fatal(op, args, e)
	}
	return i
}

// simplified returns the simplified node of a node.
func simplified(t *testing.T, b *bitvec.Table, i int) int {
	t.Helper()
	k, e := simplify.Simplify(b, i)
	if e != api.OK {
		t.Fatal(i, e)
	}
	return k
}

// P23.1

func TestConstant(t *testing.T) {
	b := table(t, 4)
	for _, n := range []int{-8, -1, 0, 1, 7} {
		if k, ok := simplify.Constant(b, add(t, b, api.OpNumber, n)); k != n || !ok {
			t.Error(n, k, ok)
		}
	}
	for n := range 2 {
		if k, ok := simplify.Constant(b, add(t, b, api.OpTruth, n)); k != n || !ok {
			t.Error(n, k, ok)
		}
	}
	x, p := add(t, b, api.OpInput, 5), add(t, b, api.OpFlag, 3)
	one, truth := add(t, b, api.OpNumber, 1), add(t, b, api.OpTruth, 1)
	// Nodes that have the same value for all inputs are not constants for that.
	for _, i := range []int{x, p, add(t, b, api.OpNeg, 0, one), add(t, b, api.OpAdd, 0, one, one), add(t, b, api.OpNot, 0, truth), add(t, b, api.OpSub, 0, x, x), -1, b.Len(), b.Len() + 1, math.MinInt, math.MaxInt} {
		if n, ok := simplify.Constant(b, i); n != 0 || ok {
			t.Error(i, n, ok)
		}
	}
}

// pool returns nodes of a table of both sorts, among them constants and nodes that are not simplified.
func pool(t *testing.T, width int) (*bitvec.Table, map[int][]int) {
	t.Helper()
	b := table(t, width)
	half := 1 << (width - 1)
	x, y, p, q := add(t, b, api.OpInput, 0), add(t, b, api.OpInput, 1), add(t, b, api.OpFlag, 2), add(t, b, api.OpFlag, 3)
	one, least, yes, no := add(t, b, api.OpNumber, 1), add(t, b, api.OpNumber, -half), add(t, b, api.OpTruth, 1), add(t, b, api.OpTruth, 0)
	negX := add(t, b, api.OpNeg, 0, x)
	notP := add(t, b, api.OpNot, 0, p)
	numbers := []int{x, y, one, least, negX, add(t, b, api.OpNeg, 0, y), add(t, b, api.OpNeg, 0, negX), add(t, b, api.OpNeg, 0, one), add(t, b, api.OpNeg, 0, least), add(t, b, api.OpAdd, 0, x, y), add(t, b, api.OpNumber, 0), add(t, b, api.OpNumber, -1), add(t, b, api.OpNumber, half-1)}
	truths := []int{p, q, yes, no, notP, add(t, b, api.OpNot, 0, q), add(t, b, api.OpNot, 0, notP), add(t, b, api.OpNot, 0, yes), add(t, b, api.OpNot, 0, no), add(t, b, api.OpAnd, 0, p, q), add(t, b, api.OpLess, 0, x, y)}
	return b, map[int][]int{api.SortInt: numbers, api.SortBool: truths}
}

// choices returns all lists with a node of each of some sorts.
func choices(l map[int][]int, sorts []int) [][]int {
	all := [][]int{nil}
	for _, s := range sorts {
		var longer [][]int
		for _, front := range all {
			for _, i := range l[s] {
				longer = append(longer, append(front[:len(front):len(front)], i))
			}
		}
		all = longer
	}
	return all
}

func TestApplyFollowsTheRules(t *testing.T) {
	r := reference{laws: laws()}
	for _, width := range []int{2, 3, 8} {
		original, l := pool(t, width)
		for op := api.OpNeg; op <= api.OpLess; op++ {
			s := sorts(op)
			for _, args := range choices(l, s[:len(s)-1]) {
				b := remade(original)
				r.table = remade(original)
				want := r.apply(op, args...)
				// What is not a result is not added, and what is there already is found.
				for range 2 {
					if i, e := simplify.Apply(b, op, args...); i != want || e != api.OK || !equalTables(b, r.table) {
						t.Fatal(width, op, args, nodes(original), i, e, want)
					}
				}
			}
		}
	}
}

func TestRules(t *testing.T) {
	b := table(t, 4)
	x, y, p, q := add(t, b, api.OpInput, 0), add(t, b, api.OpInput, 1), add(t, b, api.OpFlag, 2), add(t, b, api.OpFlag, 3)
	zero, one, minus, least, most := add(t, b, api.OpNumber, 0), add(t, b, api.OpNumber, 1), add(t, b, api.OpNumber, -1), add(t, b, api.OpNumber, -8), add(t, b, api.OpNumber, 7)
	no, yes := add(t, b, api.OpTruth, 0), add(t, b, api.OpTruth, 1)
	negX, negY, notP, notQ := add(t, b, api.OpNeg, 0, x), add(t, b, api.OpNeg, 0, y), add(t, b, api.OpNot, 0, p), add(t, b, api.OpNot, 0, q)
	for _, c := range []struct {
		op   int
		args []int
		want int
	}{
		{api.OpNeg, []int{negX}, x}, {api.OpNeg, []int{x}, negX}, {api.OpNeg, []int{least}, least}, {api.OpNeg, []int{one}, minus},
		{api.OpAdd, []int{zero, x}, x}, {api.OpAdd, []int{x, zero}, x}, {api.OpAdd, []int{x, negY}, add(t, b, api.OpSub, 0, x, y)}, {api.OpAdd, []int{negY, x}, add(t, b, api.OpSub, 0, x, y)}, {api.OpAdd, []int{negX, negY}, add(t, b, api.OpSub, 0, negX, y)}, {api.OpAdd, []int{x, negX}, zero}, {api.OpAdd, []int{negX, x}, zero}, {api.OpAdd, []int{most, one}, least}, {api.OpAdd, []int{x, x}, add(t, b, api.OpAdd, 0, x, x)},
		{api.OpSub, []int{x, x}, zero}, {api.OpSub, []int{x, zero}, x}, {api.OpSub, []int{zero, x}, negX}, {api.OpSub, []int{zero, negX}, x}, {api.OpSub, []int{x, negY}, add(t, b, api.OpAdd, 0, x, y)}, {api.OpSub, []int{negX, y}, add(t, b, api.OpSub, 0, negX, y)}, {api.OpSub, []int{least, one}, most},
		{api.OpMul, []int{zero, x}, zero}, {api.OpMul, []int{x, zero}, zero}, {api.OpMul, []int{one, x}, x}, {api.OpMul, []int{x, one}, x}, {api.OpMul, []int{minus, x}, negX}, {api.OpMul, []int{x, minus}, negX}, {api.OpMul, []int{negX, minus}, x}, {api.OpMul, []int{most, most}, one},
		{api.OpDiv, []int{x, zero}, zero}, {api.OpDiv, []int{zero, x}, zero}, {api.OpDiv, []int{x, one}, x}, {api.OpDiv, []int{x, minus}, negX}, {api.OpDiv, []int{x, x}, add(t, b, api.OpDiv, 0, x, x)}, {api.OpDiv, []int{one, x}, add(t, b, api.OpDiv, 0, one, x)}, {api.OpDiv, []int{least, minus}, least}, {api.OpDiv, []int{most, zero}, zero},
		{api.OpRem, []int{x, zero}, x}, {api.OpRem, []int{zero, x}, zero}, {api.OpRem, []int{x, one}, zero}, {api.OpRem, []int{x, minus}, zero}, {api.OpRem, []int{x, x}, zero}, {api.OpRem, []int{one, x}, add(t, b, api.OpRem, 0, one, x)}, {api.OpRem, []int{least, minus}, zero}, {api.OpRem, []int{most, zero}, most},
		{api.OpChoose, []int{yes, x, y}, x}, {api.OpChoose, []int{no, x, y}, y}, {api.OpChoose, []int{p, x, x}, x}, {api.OpChoose, []int{notP, x, y}, add(t, b, api.OpChoose, 0, p, y, x)}, {api.OpChoose, []int{p, one, zero}, add(t, b, api.OpChoose, 0, p, one, zero)}, {api.OpChoose, []int{no, one, zero}, zero},
		{api.OpPick, []int{yes, p, q}, p}, {api.OpPick, []int{no, p, q}, q}, {api.OpPick, []int{p, q, q}, q}, {api.OpPick, []int{notP, q, p}, add(t, b, api.OpPick, 0, p, p, q)}, {api.OpPick, []int{p, yes, q}, add(t, b, api.OpOr, 0, p, q)}, {api.OpPick, []int{p, q, no}, add(t, b, api.OpAnd, 0, p, q)}, {api.OpPick, []int{p, no, yes}, notP}, {api.OpPick, []int{p, yes, no}, p}, {api.OpPick, []int{p, no, q}, add(t, b, api.OpPick, 0, p, no, q)}, {api.OpPick, []int{p, q, yes}, add(t, b, api.OpPick, 0, p, q, yes)}, {api.OpPick, []int{notP, yes, no}, notP}, {api.OpPick, []int{notP, p, no}, add(t, b, api.OpPick, 0, p, no, p)},
		{api.OpNot, []int{notP}, p}, {api.OpNot, []int{p}, notP}, {api.OpNot, []int{no}, yes},
		{api.OpAnd, []int{no, p}, no}, {api.OpAnd, []int{p, no}, no}, {api.OpAnd, []int{yes, p}, p}, {api.OpAnd, []int{p, yes}, p}, {api.OpAnd, []int{p, p}, p}, {api.OpAnd, []int{p, notP}, no}, {api.OpAnd, []int{notP, p}, no}, {api.OpAnd, []int{p, notQ}, add(t, b, api.OpAnd, 0, p, notQ)}, {api.OpAnd, []int{notP, notQ}, add(t, b, api.OpAnd, 0, notP, notQ)},
		{api.OpOr, []int{yes, p}, yes}, {api.OpOr, []int{p, yes}, yes}, {api.OpOr, []int{no, p}, p}, {api.OpOr, []int{p, no}, p}, {api.OpOr, []int{p, p}, p}, {api.OpOr, []int{p, notP}, yes}, {api.OpOr, []int{notP, p}, yes}, {api.OpOr, []int{notQ, p}, add(t, b, api.OpOr, 0, notQ, p)},
		{api.OpSame, []int{p, p}, yes}, {api.OpSame, []int{yes, p}, p}, {api.OpSame, []int{p, yes}, p}, {api.OpSame, []int{no, p}, notP}, {api.OpSame, []int{p, no}, notP}, {api.OpSame, []int{no, notP}, p}, {api.OpSame, []int{p, notP}, no}, {api.OpSame, []int{notP, p}, no}, {api.OpSame, []int{notP, notQ}, add(t, b, api.OpSame, 0, notP, notQ)}, {api.OpSame, []int{no, no}, yes},
		{api.OpEqual, []int{x, x}, yes}, {api.OpEqual, []int{x, y}, add(t, b, api.OpEqual, 0, x, y)}, {api.OpEqual, []int{one, zero}, no}, {api.OpEqual, []int{one, one}, yes},
		{api.OpLess, []int{x, x}, no}, {api.OpLess, []int{x, least}, no}, {api.OpLess, []int{most, x}, no}, {api.OpLess, []int{least, x}, add(t, b, api.OpLess, 0, least, x)}, {api.OpLess, []int{x, most}, add(t, b, api.OpLess, 0, x, most)}, {api.OpLess, []int{least, most}, yes}, {api.OpLess, []int{most, least}, no},
	} {
		count := b.Len()
		if i := apply(t, b, c.op, c.args...); i != c.want || b.Len() != count {
			t.Error(c.op, c.args, i, c.want)
		}
	}
}

func TestTheFirstRuleCounts(t *testing.T) {
	b := table(t, 4)
	x, yes, no, zero, one := add(t, b, api.OpInput, 0), add(t, b, api.OpTruth, 1), add(t, b, api.OpTruth, 0), add(t, b, api.OpNumber, 0), add(t, b, api.OpNumber, 1)
	notYes, notNo, negZero, negOne := add(t, b, api.OpNot, 0, yes), add(t, b, api.OpNot, 0, no), add(t, b, api.OpNeg, 0, zero), add(t, b, api.OpNeg, 0, one)
	for _, c := range []struct {
		op   int
		args []int
		want int
	}{
		{api.OpAnd, []int{yes, notYes}, notYes}, {api.OpAnd, []int{notYes, yes}, notYes}, {api.OpAnd, []int{no, notNo}, no},
		{api.OpOr, []int{no, notNo}, notNo}, {api.OpOr, []int{notNo, no}, notNo}, {api.OpOr, []int{yes, notYes}, yes},
		{api.OpSame, []int{yes, notYes}, notYes}, {api.OpSame, []int{no, notNo}, no}, {api.OpSame, []int{notYes, yes}, notYes},
		{api.OpSub, []int{negZero, zero}, negZero}, {api.OpSub, []int{zero, negZero}, zero}, {api.OpAdd, []int{zero, negOne}, negOne}, {api.OpAdd, []int{negOne, zero}, negOne}, {api.OpAdd, []int{negOne, negOne}, add(t, b, api.OpSub, 0, negOne, one)},
		{api.OpRem, []int{negZero, zero}, negZero}, {api.OpRem, []int{x, zero}, x}, {api.OpMul, []int{zero, negOne}, zero},
		{api.OpPick, []int{notYes, yes, yes}, yes}, {api.OpPick, []int{notYes, yes, no}, no}, {api.OpChoose, []int{notNo, one, x}, one}, {api.OpChoose, []int{notYes, one, x}, x},
	} {
		if i := apply(t, b, c.op, c.args...); i != c.want {
			t.Error(c.op, c.args, i, c.want)
		}
	}
}

func TestApplicationsThatCannotBe(t *testing.T) {
	b, l := pool(t, 4)
	x, p := l[api.SortInt][0], l[api.SortBool][0]
	good := map[int]int{api.SortInt: x, api.SortBool: p}
	before := nodes(b)
	wrong := func(op int, args ...int) {
		t.Helper()
		if i, e := simplify.Apply(b, op, args...); i != 0 || e != api.ErrArg {
			t.Error(op, args, i, e)
		}
	}
	for _, op := range []int{api.OpInput, api.OpFlag, api.OpNumber, api.OpTruth, -1, api.OpLess + 1, math.MinInt, math.MaxInt} {
		for _, args := range [][]int{nil, {x}, {p}, {x, x}, {p, p}, {p, x, x}, {p, p, p}} {
			wrong(op, args...)
		}
	}
	for op := api.OpNeg; op <= api.OpLess; op++ {
		s := sorts(op)
		var args []int
		for _, k := range s[:len(s)-1] {
			args = append(args, good[k])
		}
		wrong(op)
		wrong(op, args[:len(args)-1]...)
		for _, more := range []int{0, x, p, -1} {
			wrong(op, append(args[:len(args):len(args)], more)...)
		}
		for k, old := range args {
			for _, bad := range []int{good[1-s[k]], -1, b.Len(), b.Len() + 1, math.MinInt, math.MaxInt} {
				args[k] = bad
				wrong(op, args...)
			}
			args[k] = old
		}
	}
	if after := nodes(b); len(after) != len(before) {
		t.Error(after)
	}
	// The arguments are checked before a rule decides.
	zero, yes := add(t, b, api.OpNumber, 0), add(t, b, api.OpTruth, 1)
	wrong(api.OpMul, zero, p)
	wrong(api.OpMul, zero, -1)
	wrong(api.OpChoose, yes, x, p)
	wrong(api.OpPick, yes, p, b.Len())
	wrong(api.OpEqual, p, p)
	wrong(api.OpSame, x, x)
	var none bitvec.Table
	if i, e := simplify.Apply(&none, api.OpNeg, 0); i != 0 || e != api.ErrArg {
		t.Error(i, e)
	}
}

// fill makes nodes until a table has some number of them.
func fill(t *testing.T, b *bitvec.Table, count int) {
	t.Helper()
	last := add(t, b, api.OpInput, 23)
	for b.Len() < count {
		last = add(t, b, api.OpMul, 0, last, last)
	}
}

func TestApplyInFullTables(t *testing.T) {
	b := table(t, 4)
	x, y, p, q := add(t, b, api.OpInput, 0), add(t, b, api.OpInput, 1), add(t, b, api.OpFlag, 2), add(t, b, api.OpFlag, 3)
	one, two := add(t, b, api.OpNumber, 1), add(t, b, api.OpNumber, 2)
	negX, negY := add(t, b, api.OpNeg, 0, x), add(t, b, api.OpNeg, 0, y)
	sum := add(t, b, api.OpAdd, 0, x, y)
	yes := add(t, b, api.OpTruth, 1)
	fill(t, b, api.MaxTerms)
	for _, c := range []struct {
		op   int
		args []int
		want int
		e    api.Errno
	}{
		{api.OpAdd, []int{x, y}, sum, api.OK}, {api.OpSub, []int{x, negY}, sum, api.OK}, {api.OpAdd, []int{one, one}, two, api.OK}, {api.OpMul, []int{one, x}, x, api.OK}, {api.OpEqual, []int{one, one}, yes, api.OK}, {api.OpLess, []int{one, two}, yes, api.OK}, {api.OpPick, []int{p, yes, p}, p, api.OK}, {api.OpNeg, []int{negX}, x, api.OK}, {api.OpOr, []int{p, yes}, yes, api.OK}, {api.OpSame, []int{q, q}, yes, api.OK},
		{api.OpAdd, []int{y, x}, 0, api.ErrTooLarge}, {api.OpSub, []int{x, x}, 0, api.ErrTooLarge}, {api.OpAdd, []int{x, negY}, 0, api.ErrTooLarge}, {api.OpAdd, []int{negX, y}, 0, api.ErrTooLarge}, {api.OpAdd, []int{one, two}, 0, api.ErrTooLarge}, {api.OpLess, []int{x, x}, 0, api.ErrTooLarge}, {api.OpLess, []int{two, one}, 0, api.ErrTooLarge}, {api.OpPick, []int{p, yes, q}, 0, api.ErrTooLarge}, {api.OpNot, []int{yes}, 0, api.ErrTooLarge}, {api.OpNot, []int{p}, 0, api.ErrTooLarge},
		{api.OpNot, []int{x}, 0, api.ErrArg}, {api.OpAdd, []int{x, b.Len()}, 0, api.ErrArg}, {api.OpAdd, []int{x}, 0, api.ErrArg},
	} {
		if i, e := simplify.Apply(b, c.op, c.args...); i != c.want || e != c.e || b.Len() != api.MaxTerms {
			t.Error(c.op, c.args, i, e, b.Len())
		}
	}
}

func TestTheLastNodeOfATable(t *testing.T) {
	b := table(t, 4)
	x, y := add(t, b, api.OpInput, 0), add(t, b, api.OpInput, 1)
	negY := add(t, b, api.OpNeg, 0, y)
	term := add(t, b, api.OpAdd, 0, x, negY)
	fill(t, b, api.MaxTerms-1)
	if i := simplified(t, b, term); i != api.MaxTerms-1 || b.Len() != api.MaxTerms {
		t.Error(i, b.Len())
	}
	if i := apply(t, b, api.OpAdd, x, negY); i != api.MaxTerms-1 {
		t.Error(i)
	}
}

// P23.2

func TestExamples(t *testing.T) {
	b := table(t, 4)
	x, y, p := add(t, b, api.OpInput, 0), add(t, b, api.OpInput, 1), add(t, b, api.OpFlag, 2)
	zero, one, two := add(t, b, api.OpNumber, 0), add(t, b, api.OpNumber, 1), add(t, b, api.OpNumber, 2)
	product := add(t, b, api.OpMul, 0, add(t, b, api.OpAdd, 0, x, zero), one)
	difference := add(t, b, api.OpSub, 0, product, add(t, b, api.OpNeg, 0, y))
	if i := simplified(t, b, difference); i != add(t, b, api.OpAdd, 0, x, y) {
		t.Error(i, nodes(b))
	}
	pick := add(t, b, api.OpPick, 0, p, add(t, b, api.OpLess, 0, one, two), add(t, b, api.OpAnd, 0, p, add(t, b, api.OpNot, 0, p)))
	if i := simplified(t, b, pick); i != p {
		t.Error(i, nodes(b))
	}
}

func TestSimplify(t *testing.T) {
	b := table(t, 3)
	x, y, p, q := add(t, b, api.OpInput, 0), add(t, b, api.OpInput, 1), add(t, b, api.OpFlag, 2), add(t, b, api.OpFlag, 3)
	zero, one, three := add(t, b, api.OpNumber, 0), add(t, b, api.OpNumber, 1), add(t, b, api.OpNumber, 3)
	no, yes := add(t, b, api.OpTruth, 0), add(t, b, api.OpTruth, 1)
	four := add(t, b, api.OpAdd, 0, three, one)
	less := add(t, b, api.OpLess, 0, x, four)
	negX := add(t, b, api.OpNeg, 0, x)
	notNot := add(t, b, api.OpNot, 0, add(t, b, api.OpNot, 0, p))
	for _, c := range []struct{ node, want int }{
		{x, x}, {p, p}, {zero, zero}, {yes, yes}, {negX, negX}, {notNot, p},
		{four, add(t, b, api.OpNumber, -4)},
		// 4 is the least integer of this width.
		{less, no}, {add(t, b, api.OpNot, 0, less), yes}, {add(t, b, api.OpPick, 0, less, p, q), q}, {add(t, b, api.OpChoose, 0, less, y, x), x},
		{add(t, b, api.OpSub, 0, x, add(t, b, api.OpNeg, 0, negX)), zero}, {add(t, b, api.OpAdd, 0, add(t, b, api.OpMul, 0, x, zero), y), y}, {add(t, b, api.OpAnd, 0, notNot, p), p}, {add(t, b, api.OpAnd, 0, notNot, add(t, b, api.OpNot, 0, notNot)), no},
		{add(t, b, api.OpChoose, 0, add(t, b, api.OpNot, 0, notNot), x, y), add(t, b, api.OpChoose, 0, p, y, x)}, {add(t, b, api.OpEqual, 0, add(t, b, api.OpAdd, 0, x, y), add(t, b, api.OpAdd, 0, y, x)), add(t, b, api.OpEqual, 0, add(t, b, api.OpAdd, 0, x, y), add(t, b, api.OpAdd, 0, y, x))},
		{add(t, b, api.OpEqual, 0, add(t, b, api.OpSub, 0, x, y), add(t, b, api.OpAdd, 0, x, add(t, b, api.OpNeg, 0, y))), yes}, {add(t, b, api.OpDiv, 0, x, add(t, b, api.OpSub, 0, y, y)), zero}, {add(t, b, api.OpRem, 0, x, add(t, b, api.OpSub, 0, y, y)), x},
	} {
		if i := simplified(t, b, c.node); i != c.want {
			t.Error(c.node, i, c.want)
		}
	}
	for _, i := range []int{-1, b.Len(), b.Len() + 1, math.MinInt, math.MaxInt} {
		count := b.Len()
		if k, e := simplify.Simplify(b, i); k != 0 || e != api.ErrArg || b.Len() != count {
			t.Error(i, k, e)
		}
	}
	var none bitvec.Table
	if i, e := simplify.Simplify(&none, 0); i != 0 || e != api.ErrArg {
		t.Error(i, e)
	}
}

func TestSimplifyInFullTables(t *testing.T) {
	b := table(t, 4)
	x, y, one := add(t, b, api.OpInput, 0), add(t, b, api.OpInput, 1), add(t, b, api.OpNumber, 1)
	negY := add(t, b, api.OpNeg, 0, y)
	sum, difference := add(t, b, api.OpAdd, 0, x, negY), add(t, b, api.OpSub, 0, x, negY)
	same := add(t, b, api.OpMul, 0, sum, one)
	inner := add(t, b, api.OpNeg, 0, difference)
	twice := add(t, b, api.OpNeg, 0, add(t, b, api.OpNeg, 0, negY))
	whole := add(t, b, api.OpAdd, 0, x, y)
	fill(t, b, api.MaxTerms)
	for _, c := range []struct {
		node, want int
		e          api.Errno
	}{
		{x, x, api.OK}, {negY, negY, api.OK}, {twice, negY, api.OK}, {whole, whole, api.OK}, {difference, whole, api.OK}, {b.Len() - 1, b.Len() - 1, api.OK},
		{sum, 0, api.ErrTooLarge}, {same, 0, api.ErrTooLarge}, {inner, 0, api.ErrTooLarge}, {b.Len(), 0, api.ErrArg}, {-1, 0, api.ErrArg},
	} {
		if i, e := simplify.Simplify(b, c.node); i != c.want || e != c.e || b.Len() != api.MaxTerms {
			t.Error(c.node, i, e, b.Len())
		}
	}
}

func TestLongTerms(t *testing.T) {
	b := table(t, 8)
	x, y := add(t, b, api.OpInput, 0), add(t, b, api.OpInput, 1)
	difference := add(t, b, api.OpSub, 0, y, x)
	even, odd := x, add(t, b, api.OpNeg, 0, x)
	negX := odd
	for b.Len() < api.MaxTerms-1 {
		even = add(t, b, api.OpNeg, 0, odd)
		odd = add(t, b, api.OpNeg, 0, even)
	}
	if i, k := simplified(t, b, even), simplified(t, b, odd); i != x || k != negX {
		t.Error(i, k)
	}
	// The negations are taken away one by one.
	if i := apply(t, b, api.OpSub, y, even); i != difference {
		t.Error(i)
	}
	if i := apply(t, b, api.OpAdd, odd, y); i != difference {
		t.Error(i)
	}
}

func TestSharedTerms(t *testing.T) {
	b := table(t, 8)
	zero, last := add(t, b, api.OpNumber, 0), add(t, b, api.OpInput, 0)
	// Each node is needed twice by the one behind it, so that there are 2^3000 ways down.
	for range 3000 {
		last = add(t, b, api.OpAdd, 0, add(t, b, api.OpSub, 0, last, zero), last)
	}
	i := simplified(t, b, last)
	if n := b.Size(i); n != 3001 {
		t.Error(n)
	}
	if k := simplified(t, b, i); k != i {
		t.Error(k, i)
	}
}
