package bitvec_test

import (
	"math/rand"
	"slices"
	"testing"

	"assessor/api"
	"assessor/bitvec"
)

// operators returns the operators with arguments, with the sorts of these and that of the node at the end.
func operators() map[int][]int {
	number, truth := api.SortInt, api.SortBool
	return map[int][]int{
		api.OpNeg: {number, number}, api.OpAdd: {number, number, number}, api.OpSub: {number, number, number}, api.OpMul: {number, number, number}, api.OpDiv: {number, number, number}, api.OpRem: {number, number, number}, api.OpChoose: {truth, number, number, number},
		api.OpNot: {truth, truth}, api.OpAnd: {truth, truth, truth}, api.OpOr: {truth, truth, truth}, api.OpSame: {truth, truth, truth}, api.OpPick: {truth, truth, truth, truth}, api.OpEqual: {number, number, truth}, api.OpLess: {number, number, truth},
	}
}

// made is a node that a test made, with its value for some inputs and the sets of its nodes.
type made struct {
	x     api.Term
	sort  int
	value int
	nodes map[api.Term]bool
}

// leaf returns a random node without arguments.
func leaf(r *rand.Rand, width int, input []int, truths []bool) made {
	m := made{}
	switch r.Intn(4) {
	case 0:
		m.x = term(api.OpTruth, r.Intn(2))
		m.sort, m.value = api.SortBool, m.x.Value
	case 1:
		m.x = term(api.OpNumber, wrapped(width, r.Intn(256)))
		m.sort, m.value = api.SortInt, m.x.Value
	default:
		i := r.Intn(len(input))
		m.x, m.sort, m.value = term(api.OpInput, i), api.SortInt, input[i]
		if truths[i] {
			m.x, m.sort = term(api.OpFlag, i), api.SortBool
		}
	}
	m.nodes = map[api.Term]bool{m.x: true}
	return m
}

// result returns the value of an operator on values.
func result(width, op int, v []int) int {
	switch op {
	case api.OpChoose, api.OpPick:
		return []int{v[2], v[1]}[v[0]]
	case api.OpNot:
		return 1 - v[0]
	case api.OpAnd:
		return v[0] * v[1]
	case api.OpOr:
		return v[0] + v[1] - v[0]*v[1]
	case api.OpSame:
		return 1 - (v[0]-v[1])*(v[0]-v[1])
	}
	return meaning(width, op, v[0], v[len(v)-1])
}

// combine returns a node with a random operator, and false if the nodes do not fit.
func combine(r *rand.Rand, width int, all []made) (made, bool) {
	op := api.OpNeg + r.Intn(api.OpLess-api.OpNeg+1)
	sorts := operators()[op]
	m := made{x: term(op, 0), sort: sorts[len(sorts)-1], nodes: map[api.Term]bool{}}
	var values []int
	for k := range len(sorts) - 1 {
		i := r.Intn(len(all))
		if all[i].sort != sorts[k] {
			return made{}, false
		}
		m.x.Args[k] = i
		values = append(values, all[i].value)
		for x := range all[i].nodes {
			m.nodes[x] = true
		}
	}
	m.nodes[m.x] = true
	m.value = result(width, op, values)
	return m, true
}

func TestRandomTables(t *testing.T) {
	r := rand.New(rand.NewSource(1))
	for range 300 {
		width := 2 + r.Intn(7)
		b := table(t, width)
		input, truths := make([]int, 1+r.Intn(6)), make([]bool, 6)
		for i := range input {
			truths[i] = r.Intn(2) == 0
			input[i] = wrapped(width, r.Intn(256))
			if truths[i] {
				input[i] = r.Intn(2)
			}
		}
		var all []made
		for range 150 {
			m := leaf(r, width, input, truths)
			if len(all) > 3 && r.Intn(8) > 0 {
				var ok bool
				if m, ok = combine(r, width, all); !ok {
					continue
				}
			}
			old := slices.IndexFunc(all, func(o made) bool { return o.x == m.x })
			i, e := b.Make(m.x)
			if old < 0 {
				old = len(all)
				all = append(all, m)
			}
			// Equal nodes have one number.
			if i != old || e != api.OK || b.Len() != len(all) {
				t.Fatal(all, m, i, e)
			}
		}
		for i, m := range all {
			check(t, b, i, m, input)
		}
	}
}

// check checks what a table says of a node.
func check(t *testing.T, b *bitvec.Table, i int, m made, input []int) {
	t.Helper()
	if n, e := b.Eval(i, input); n != m.value || e != api.OK {
		t.Fatal(m, input, n, e)
	}
	if x, ok := b.Node(i); x != m.x || !ok {
		t.Fatal(m, x, ok)
	}
	if s, ok := b.Sort(i); s != m.sort || !ok {
		t.Fatal(m, s, ok)
	}
	var inputs []int
	for n := range input {
		if m.nodes[term(api.OpInput, n)] || m.nodes[term(api.OpFlag, n)] {
			inputs = append(inputs, n)
		}
	}
	if l := b.Inputs(i); !slices.Equal(l, inputs) {
		t.Fatal(m, l, inputs)
	}
	if n := b.Size(i); n != len(m.nodes) {
		t.Fatal(m, n, len(m.nodes))
	}
	// A value depends on the inputs of its node only.
	other := slices.Clone(input)
	for n := range other {
		if !slices.Contains(inputs, n) {
			other[n] = 12345
		}
	}
	last := 0
	if len(inputs) > 0 {
		last = inputs[len(inputs)-1] + 1
	}
	if n, e := b.Eval(i, other[:last]); n != m.value || e != api.OK {
		t.Fatal(m, other, n, e)
	}
	if last > 0 {
		if n, e := b.Eval(i, other[:last-1]); n != 0 || e != api.ErrRange {
			t.Fatal(m, other, n, e)
		}
	}
}

// P22.4

// laws makes pairs of nodes over three integers that have the same values in arithmetic modulo a power of 2.
func laws(t *testing.T, b *bitvec.Table) [][2]int {
	t.Helper()
	x, y, z := add(t, b, api.OpInput, 0), add(t, b, api.OpInput, 1), add(t, b, api.OpInput, 2)
	zero, one := add(t, b, api.OpNumber, 0), add(t, b, api.OpNumber, 1)
	plus := func(i, k int) int { return add(t, b, api.OpAdd, 0, i, k) }
	minus := func(i, k int) int { return add(t, b, api.OpSub, 0, i, k) }
	times := func(i, k int) int { return add(t, b, api.OpMul, 0, i, k) }
	neg := func(i int) int { return add(t, b, api.OpNeg, 0, i) }
	quotient, remainder := add(t, b, api.OpDiv, 0, x, y), add(t, b, api.OpRem, 0, x, y)
	less, more, equal := add(t, b, api.OpLess, 0, x, y), add(t, b, api.OpLess, 0, y, x), add(t, b, api.OpEqual, 0, x, y)
	either := add(t, b, api.OpOr, 0, less, more)
	return [][2]int{
		{plus(x, y), plus(y, x)}, {plus(plus(x, y), z), plus(x, plus(y, z))}, {plus(x, zero), x}, {plus(x, neg(x)), zero}, {minus(x, y), plus(x, neg(y))}, {neg(neg(x)), x},
		{times(x, y), times(y, x)}, {times(times(x, y), z), times(x, times(y, z))}, {times(x, one), x}, {times(x, zero), zero}, {times(x, plus(y, z)), plus(times(x, y), times(x, z))},
		{plus(times(quotient, y), remainder), x}, {add(t, b, api.OpNot, 0, equal), either}, {add(t, b, api.OpAnd, 0, less, more), add(t, b, api.OpTruth, 0)}, {add(t, b, api.OpNot, 0, either), equal},
		{add(t, b, api.OpSame, 0, less, less), add(t, b, api.OpTruth, 1)}, {add(t, b, api.OpPick, 0, less, more, less), add(t, b, api.OpTruth, 0)}, {add(t, b, api.OpChoose, 0, equal, x, y), y}, {add(t, b, api.OpEqual, 0, minus(x, y), zero), equal},
	}
}

func TestLaws(t *testing.T) {
	r := rand.New(rand.NewSource(2))
	for width := api.MinWidth; width <= api.MaxWidth; width++ {
		b := table(t, width)
		for i, law := range laws(t, b) {
			for range 2000 {
				input := []int{wrapped(width, r.Intn(256)), wrapped(width, r.Intn(256)), wrapped(width, r.Intn(256))}
				left, e := b.Eval(law[0], input)
				right, f := b.Eval(law[1], input)
				sort, _ := b.Sort(law[0])
				if left != right || e != api.OK || f != api.OK || left != wrapped(width, left) || sort == api.SortBool && left != 0 && left != 1 {
					t.Fatal(width, i, input, left, right, e, f)
				}
			}
		}
	}
}

func TestInputIsLeftAlone(t *testing.T) {
	b := table(t, 4)
	x := add(t, b, api.OpNeg, 0, add(t, b, api.OpInput, 0))
	input := []int{3, 9, 9}
	if n, e := b.Eval(x, input); n != -3 || e != api.OK || !slices.Equal(input, []int{3, 9, 9}) {
		t.Error(n, e, input)
	}
	l := b.Inputs(x)
	l[0] = 5
	_ = append(l, 7)
	if l := b.Inputs(x); !slices.Equal(l, []int{0}) {
		t.Error(l)
	}
}
