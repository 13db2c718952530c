package gates_test

import (
	"math"
	"slices"
	"testing"

	"assessor/api"
	"assessor/gates"
)

// builder returns a builder of a circuit without gates.
func builder(t *testing.T, inputs int) *gates.Builder {
	t.Helper()
	b, e := gates.New(inputs)
	if b == nil || e != api.OK {
		t.Fatal(inputs, e)
	}
	return b
}

// circuit is a circuit with some gates.
func circuit(inputs int, l ...[2]int) api.Gates { return api.Gates{Inputs: inputs, Gates: l} }

func equal(a, b api.Gates) bool { return a.Inputs == b.Inputs && slices.Equal(a.Gates, b.Gates) }

// built fails if a builder has not a circuit, or has an error.
func built(t *testing.T, b *gates.Builder, want api.Gates) {
	t.Helper()
	if g := b.Circuit(); !equal(g, want) || b.Err() != api.OK || b.Len() != 1+want.Inputs+len(want.Gates) {
		t.Error(g, want, b.Err(), b.Len())
	}
}

// P24.1

func TestNew(t *testing.T) {
	for _, n := range []int{0, 1, 2, 1000, api.MaxList} {
		built(t, builder(t, n), circuit(n))
	}
	for _, n := range []int{-1, api.MaxList + 1, math.MinInt, math.MaxInt} {
		if b, e := gates.New(n); b != nil || e != api.ErrArg {
			t.Error(n, b, e)
		}
	}
}

func TestInput(t *testing.T) {
	b := builder(t, 3)
	for i := range 3 {
		if x := b.Input(i); x != 2*(i+1) {
			t.Error(i, x)
		}
	}
	built(t, b, circuit(3))
	b = builder(t, api.MaxList)
	if x := b.Input(api.MaxList - 1); x != 2*api.MaxList || b.Err() != api.OK {
		t.Error(x, b.Err())
	}
	for _, i := range []int{-1, 3, 4, math.MinInt, math.MaxInt} {
		b := builder(t, 3)
		if x := b.Input(i); x != 0 || b.Err() != api.ErrArg || b.Len() != 4 {
			t.Error(i, x, b.Err(), b.Len())
		}
	}
	b = builder(t, 0)
	if x := b.Input(0); x != 0 || b.Err() != api.ErrArg {
		t.Error(x, b.Err())
	}
}

func TestNot(t *testing.T) {
	for _, x := range []struct{ x, want int }{{0, 1}, {1, 0}, {2, 3}, {3, 2}, {130, 131}, {131, 130}, {-1, -2}, {-2, -1}, {-3, -4}, {-4, -3}, {math.MaxInt, math.MaxInt - 1}, {math.MaxInt - 1, math.MaxInt}, {math.MinInt, math.MinInt + 1}, {math.MinInt + 1, math.MinInt}} {
		if n := gates.Not(x.x); n != x.want {
			t.Error(x, n)
		}
	}
}

func TestExample(t *testing.T) {
	b := builder(t, 2)
	if x, y := b.And(2, 4), b.And(2, 4); x != 6 || y != 6 {
		t.Error(x, y)
	}
	built(t, b, circuit(2, [2]int{2, 4}))
	if x := b.Xor(2, 4); x != 13 {
		t.Error(x)
	}
	built(t, b, circuit(2, [2]int{2, 4}, [2]int{2, 5}, [2]int{3, 4}, [2]int{9, 11}))
}

func TestAnd(t *testing.T) {
	b := builder(t, 2)
	for _, x := range []struct{ x, y, want int }{
		{0, 0, 0}, {0, 1, 0}, {1, 0, 0}, {1, 1, 1}, {0, 2, 0}, {3, 0, 0}, {1, 2, 2}, {1, 3, 3}, {2, 1, 2}, {5, 1, 5}, {2, 2, 2}, {5, 5, 5}, {2, 3, 0}, {3, 2, 0}, {5, 4, 0},
	} {
		if z := b.And(x.x, x.y); z != x.want {
			t.Error(x, z)
		}
	}
	built(t, b, circuit(2))
	for range 2 {
		for _, x := range []struct{ x, y, want int }{{2, 4, 6}, {4, 2, 6}, {5, 2, 8}, {2, 5, 8}, {3, 5, 10}, {6, 3, 12}, {10, 7, 14}, {7, 10, 14}, {15, 4, 16}, {17, 17, 17}, {16, 17, 0}} {
			if z := b.And(x.x, x.y); z != x.want {
				t.Error(x, z)
			}
		}
		built(t, b, circuit(2, [2]int{2, 4}, [2]int{2, 5}, [2]int{3, 5}, [2]int{3, 6}, [2]int{7, 10}, [2]int{4, 15}))
	}
}

func TestOr(t *testing.T) {
	b := builder(t, 2)
	for _, x := range []struct{ x, y, want int }{{0, 0, 0}, {0, 1, 1}, {1, 0, 1}, {1, 1, 1}, {0, 4, 4}, {3, 0, 3}, {1, 4, 1}, {5, 1, 1}, {2, 2, 2}, {2, 3, 1}, {5, 4, 1}} {
		if z := b.Or(x.x, x.y); z != x.want {
			t.Error(x, z)
		}
	}
	built(t, b, circuit(2))
	for range 2 {
		for _, x := range []struct{ x, y, want int }{{2, 4, 7}, {4, 2, 7}, {3, 5, 9}, {2, 5, 11}} {
			if z := b.Or(x.x, x.y); z != x.want {
				t.Error(x, z)
			}
		}
		built(t, b, circuit(2, [2]int{3, 5}, [2]int{2, 4}, [2]int{3, 4}))
	}
}

func TestXor(t *testing.T) {
	b := builder(t, 2)
	for _, x := range []struct{ x, y, want int }{{0, 0, 0}, {0, 1, 1}, {1, 0, 1}, {1, 1, 0}, {0, 4, 4}, {3, 0, 3}, {1, 4, 5}, {5, 1, 4}, {2, 2, 0}, {2, 3, 1}, {5, 4, 1}} {
		if z := b.Xor(x.x, x.y); z != x.want {
			t.Error(x, z)
		}
	}
	built(t, b, circuit(2))
	// Of 4 and 2 the conjunction of 4 and not 2 comes first.
	if z := b.Xor(4, 2); z != 11 {
		t.Error(z)
	}
	built(t, b, circuit(2, [2]int{3, 4}, [2]int{2, 5}, [2]int{7, 9}))
	if z := b.Xor(2, 4); z != 11 {
		t.Error(z)
	}
	// The conjunctions are made again, and found, but their disjunction has the other one first.
	if z := b.Xor(3, 4); z != 17 {
		t.Error(z)
	}
	built(t, b, circuit(2, [2]int{3, 4}, [2]int{2, 5}, [2]int{7, 9}, [2]int{3, 5}, [2]int{2, 4}, [2]int{13, 15}))
}

func TestMux(t *testing.T) {
	b := builder(t, 3)
	for _, x := range []struct{ c, x, y, want int }{{1, 2, 4, 2}, {0, 2, 4, 4}, {1, 0, 4, 0}, {0, 1, 5, 5}, {2, 1, 0, 2}, {2, 0, 1, 3}, {2, 0, 0, 0}, {2, 1, 1, 1}, {3, 1, 0, 3}} {
		if z := b.Mux(x.c, x.x, x.y); z != x.want {
			t.Error(x, z)
		}
	}
	built(t, b, circuit(3))
	// Gates 8: 6 and 4, 10: not 6 and 2, 12: neither.
	if z := b.Mux(6, 4, 2); z != 13 {
		t.Error(z)
	}
	built(t, b, circuit(3, [2]int{4, 6}, [2]int{2, 7}, [2]int{9, 11}))
	if z := b.Mux(6, 4, 2); z != 13 {
		t.Error(z)
	}
	if z := b.Mux(7, 4, 2); z != 19 {
		t.Error(z)
	}
	// Nothing is known of both values being the same.
	if z := b.Mux(2, 4, 4); z != 25 {
		t.Error(z)
	}
	built(t, b, circuit(3, [2]int{4, 6}, [2]int{2, 7}, [2]int{9, 11}, [2]int{4, 7}, [2]int{2, 6}, [2]int{15, 17}, [2]int{2, 4}, [2]int{3, 4}, [2]int{21, 23}))
}

// uses calls each method of a builder that makes literals, and fails if one returns another one than 0.
func uses(t *testing.T, b *gates.Builder) {
	t.Helper()
	if l := []int{b.Input(0), b.And(2, 4), b.And(1, 1), b.Or(2, 4), b.Or(1, 1), b.Xor(2, 4), b.Mux(2, 4, 5), b.Mux(1, 1, 1), b.Input(-1), b.And(-1, 2)}; slices.Max(l) != 0 || slices.Min(l) != 0 {
		t.Error(l)
	}
}

func TestLiteralsThatAreNone(t *testing.T) {
	// With 2 inputs and one gate the literals are from 0 to 7.
	for _, bad := range []int{-1, -2, 8, 9, 100, math.MinInt, math.MaxInt} {
		for i, use := range []func(b *gates.Builder) int{
			func(b *gates.Builder) int { return b.And(bad, 4) }, func(b *gates.Builder) int { return b.And(4, bad) }, func(b *gates.Builder) int { return b.And(0, bad) }, func(b *gates.Builder) int { return b.And(bad, 1) }, func(b *gates.Builder) int { return b.And(bad, bad) },
			func(b *gates.Builder) int { return b.Or(bad, 4) }, func(b *gates.Builder) int { return b.Or(4, bad) }, func(b *gates.Builder) int { return b.Or(1, bad) }, func(b *gates.Builder) int { return b.Or(bad, 0) },
			func(b *gates.Builder) int { return b.Xor(bad, 4) }, func(b *gates.Builder) int { return b.Xor(4, bad) }, func(b *gates.Builder) int { return b.Xor(0, bad) }, func(b *gates.Builder) int { return b.Xor(bad, bad) },
			func(b *gates.Builder) int { return b.Mux(bad, 4, 2) }, func(b *gates.Builder) int { return b.Mux(4, bad, 2) }, func(b *gates.Builder) int { return b.Mux(4, 2, bad) }, func(b *gates.Builder) int { return b.Mux(0, bad, 2) }, func(b *gates.Builder) int { return b.Mux(1, 2, bad) },
		} {
			b := builder(t, 2)
			b.And(2, 5)
			if z := use(b); z != 0 || b.Err() != api.ErrArg || b.Len() != 4 {
				t.Error(bad, i, z, b.Err(), b.Len())
			}
			uses(t, b)
			if g := b.Circuit(); b.Err() != api.ErrArg || b.Len() != 4 || !equal(g, circuit(2, [2]int{2, 5})) {
				t.Error(bad, i, b.Err(), g)
			}
		}
	}
	b := builder(t, 2)
	if z := b.And(2, 6); z != 0 || b.Err() != api.ErrArg {
		t.Error(z, b.Err())
	}
	b = builder(t, 2)
	b.Input(2)
	uses(t, b)
	if b.Err() != api.ErrArg || b.Len() != 3 {
		t.Error(b.Err(), b.Len())
	}
}

// filled returns a builder of a circuit with some number of nodes: the conjunctions of its inputs, from the last ones on.
func filled(t *testing.T, nodes int) *gates.Builder {
	t.Helper()
	b := builder(t, api.MaxList)
	for i := api.MaxList - 1; b.Len() < nodes; i-- {
		for k := i - 1; k > 0 && b.Len() < nodes; k-- {
			n := b.Len()
			if z := b.And(b.Input(i), b.Input(k)); z != 2*n || b.Len() != n+1 {
				t.Fatal(i, k, z, b.Err())
			}
		}
	}
	return b
}

func TestFullCircuits(t *testing.T) {
	b := filled(t, api.MaxVariables)
	last := 2 * (api.MaxVariables - 1)
	// What needs no new gate is no error.
	for _, x := range []struct{ got, want int }{{b.And(last, 1), last}, {b.And(last, last+1), 0}, {b.And(b.Input(api.MaxList-1), b.Input(api.MaxList-2)), 2 * (api.MaxList + 1)}, {b.Or(last, last+1), 1}, {b.Xor(last, 0), last}, {b.Mux(last, 1, 0), last}} {
		if x.got != x.want || b.Err() != api.OK {
			t.Error(x, b.Err())
		}
	}
	g := b.Circuit()
	if !gates.Valid(g) || b.Len() != api.MaxVariables {
		t.Error(b.Len())
	}
	if z := b.And(2, 4); z != 0 || b.Err() != api.ErrTooLarge || b.Len() != api.MaxVariables {
		t.Error(z, b.Err(), b.Len())
	}
	uses(t, b)
	// The first error stays.
	if b.Err() != api.ErrTooLarge || b.Len() != api.MaxVariables || !equal(b.Circuit(), g) {
		t.Error(b.Err(), b.Len())
	}
	// An argument that is no literal comes first.
	for i, use := range []func(b *gates.Builder) int{func(b *gates.Builder) int { return b.And(2, -1) }, func(b *gates.Builder) int { return b.Or(2, -1) }, func(b *gates.Builder) int { return b.Xor(2, -1) }, func(b *gates.Builder) int { return b.Mux(2, 4, -1) }} {
		b := filled(t, api.MaxVariables)
		if z := use(b); z != 0 || b.Err() != api.ErrArg {
			t.Error(i, z, b.Err())
		}
	}
}

func TestTheLastGates(t *testing.T) {
	for i, use := range []struct {
		make func(b *gates.Builder) int
		more int
	}{
		{func(b *gates.Builder) int { return b.And(2, 4) }, 1}, {func(b *gates.Builder) int { return b.Or(2, 4) }, 1}, {func(b *gates.Builder) int { return b.Xor(2, 4) }, 3}, {func(b *gates.Builder) int { return b.Mux(2, 4, 7) }, 3},
	} {
		for free := range 4 {
			b := filled(t, api.MaxVariables-free)
			g := b.Circuit()
			z := use.make(b)
			if free >= use.more {
				if z/2 != g.Inputs+len(g.Gates)+use.more || b.Err() != api.OK || b.Len() != api.MaxVariables-free+use.more || !gates.Valid(b.Circuit()) {
					t.Error(i, free, z, b.Err(), b.Len())
				}
				continue
			}
			// With an error, the circuit is as before.
			if z != 0 || b.Err() != api.ErrTooLarge || b.Len() != api.MaxVariables-free || !equal(b.Circuit(), g) {
				t.Error(i, free, z, b.Err(), b.Len())
			}
			uses(t, b)
			if b.Err() != api.ErrTooLarge || !equal(b.Circuit(), g) {
				t.Error(i, free, b.Err())
			}
		}
	}
}

func TestBuildersAreApart(t *testing.T) {
	a, b := builder(t, 2), builder(t, 2)
	a.And(2, 4)
	b.And(2, 5)
	built(t, a, circuit(2, [2]int{2, 4}))
	built(t, b, circuit(2, [2]int{2, 5}))
	g := a.Circuit()
	g.Gates[0] = [2]int{3, 5}
	_ = append(g.Gates, [2]int{3, 4})
	if z := a.And(3, 5); z != 8 {
		t.Error(z)
	}
	built(t, a, circuit(2, [2]int{2, 4}, [2]int{3, 5}))
	// What is added later does not appear in a circuit.
	g = b.Circuit()
	b.And(3, 5)
	if !equal(g, circuit(2, [2]int{2, 5})) {
		t.Error(g)
	}
	// A builder that New did not make has no inputs.
	var none gates.Builder
	if z := none.Or(0, 1); z != 1 {
		t.Error(z)
	}
	built(t, &none, circuit(0))
}

// P24.2

func TestValid(t *testing.T) {
	for i, x := range []struct {
		g    api.Gates
		want bool
	}{
		{circuit(0), true}, {circuit(api.MaxList), true}, {circuit(2, [2]int{2, 4}), true}, {circuit(2, [2]int{3, 5}, [2]int{2, 7}, [2]int{6, 9}), true}, {circuit(1, [2]int{2, 3}), false}, {circuit(2, [2]int{2, 4}, [2]int{2, 5}, [2]int{3, 4}, [2]int{3, 5}), true},
		{circuit(-1), false}, {circuit(api.MaxList + 1), false}, {circuit(math.MinInt), false}, {circuit(math.MaxInt), false}, {circuit(math.MaxInt, [2]int{2, 4}), false},
		// Literals that are constant, in the wrong order, equal, opposite, of the gate itself or of one behind it.
		{circuit(2, [2]int{0, 4}), false}, {circuit(2, [2]int{1, 4}), false}, {circuit(2, [2]int{-2, 4}), false}, {circuit(2, [2]int{math.MinInt, 4}), false}, {circuit(2, [2]int{4, 2}), false}, {circuit(2, [2]int{4, 4}), false}, {circuit(2, [2]int{4, 5}), false}, {circuit(2, [2]int{5, 4}), false}, {circuit(2, [2]int{3, 4}), true},
		{circuit(2, [2]int{2, 6}), false}, {circuit(2, [2]int{2, 7}), false}, {circuit(2, [2]int{2, 8}), false}, {circuit(2, [2]int{2, math.MaxInt}), false}, {circuit(2, [2]int{2, 4}, [2]int{2, 7}), true}, {circuit(2, [2]int{2, 4}, [2]int{2, 8}), false}, {circuit(2, [2]int{2, 4}, [2]int{2, 9}), false}, {circuit(0, [2]int{2, 4}), false},
		// A gate that is there already.
		{circuit(2, [2]int{2, 4}, [2]int{2, 4}), false}, {circuit(2, [2]int{2, 4}, [2]int{3, 4}, [2]int{2, 4}), false},
	} {
		if got := gates.Valid(x.g); got != x.want {
			t.Error(i, x.g, got)
		}
	}
	g := filled(t, api.MaxVariables).Circuit()
	if !gates.Valid(g) {
		t.Error(len(g.Gates))
	}
	g.Gates = append(g.Gates, [2]int{2, 4})
	if gates.Valid(g) {
		t.Error(len(g.Gates))
	}
}

func TestEval(t *testing.T) {
	// 6: both, 8: the first one without the second one, 10: none of these gates.
	g := circuit(2, [2]int{2, 4}, [2]int{2, 5}, [2]int{7, 9})
	for i := range 4 {
		a, b := i/2 == 1, i%2 == 1
		l, e := gates.Eval(g, []bool{a, b}, 10, 0, 1, 2, 3, 4, 5, 6, 7, 8, 9, 11, 10, 2)
		if want := []bool{!a, false, true, a, !a, b, !b, a && b, !(a && b), a && !b, !(a && !b), a, !a, a}; !slices.Equal(l, want) || e != api.OK {
			t.Error(a, b, l, e)
		}
	}
	if l, e := gates.Eval(g, []bool{true, true}); len(l) != 0 || e != api.OK {
		t.Error(l, e)
	}
	if l, e := gates.Eval(circuit(0), nil, 1, 0); !slices.Equal(l, []bool{true, false}) || e != api.OK {
		t.Error(l, e)
	}
	two := []bool{true, true}
	for i, x := range []struct {
		g        api.Gates
		input    []bool
		literals []int
	}{
		{g, nil, []int{2}}, {g, two[:1], []int{2}}, {g, []bool{true, true, true}, []int{2}}, {g, nil, nil}, {circuit(0), two, nil},
		{g, two, []int{-1}}, {g, two, []int{12}}, {g, two, []int{2, 4, 13}}, {g, two, []int{math.MinInt, 2}}, {g, two, []int{math.MaxInt}},
		{circuit(2, [2]int{4, 2}), two, []int{2}}, {circuit(-1), nil, nil}, {circuit(2, [2]int{2, 4}, [2]int{2, 4}), two, nil}, {circuit(api.MaxList + 1), make([]bool, api.MaxList+1), nil},
	} {
		if l, e := gates.Eval(x.g, x.input, x.literals...); len(l) != 0 || e != api.ErrArg {
			t.Error(i, x, l, e)
		}
	}
}

// P24.3

func TestSupport(t *testing.T) {
	// 10: inputs 0 and 2, 12: that and input 3, 14: inputs 1 and 2
	g := circuit(4, [2]int{2, 7}, [2]int{8, 11}, [2]int{5, 6})
	for i, x := range []struct {
		literals, want []int
	}{
		{nil, nil}, {[]int{0}, nil}, {[]int{1, 0}, nil}, {[]int{2}, []int{0}}, {[]int{9}, []int{3}}, {[]int{8, 3, 2}, []int{0, 3}}, {[]int{10}, []int{0, 2}}, {[]int{11}, []int{0, 2}}, {[]int{12}, []int{0, 2, 3}}, {[]int{14}, []int{1, 2}}, {[]int{15, 10}, []int{0, 1, 2}}, {[]int{14, 1, 13, 14}, []int{0, 1, 2, 3}},
		{[]int{-1}, nil}, {[]int{16}, nil}, {[]int{2, 17}, nil}, {[]int{2, -2}, nil}, {[]int{math.MinInt}, nil}, {[]int{math.MaxInt}, nil},
	} {
		if l := gates.Support(g, x.literals...); !slices.Equal(l, x.want) {
			t.Error(i, x, l)
		}
	}
	for i, g := range []api.Gates{circuit(2, [2]int{4, 2}), circuit(-1), circuit(api.MaxList + 1), circuit(2, [2]int{2, 4}, [2]int{2, 4})} {
		if l := gates.Support(g, 2); len(l) != 0 {
			t.Error(i, l)
		}
	}
	if l := gates.Support(circuit(0), 1); len(l) != 0 {
		t.Error(l)
	}
}

func TestCone(t *testing.T) {
	g := circuit(4, [2]int{2, 7}, [2]int{8, 11}, [2]int{5, 6}, [2]int{13, 14})
	for i, x := range []struct {
		literals []int
		want     api.Gates
		moved    []int
	}{
		{nil, circuit(4), nil}, {[]int{0, 1, 2, 9, 2}, circuit(4), []int{0, 1, 2, 9, 2}}, {[]int{10}, circuit(4, [2]int{2, 7}), []int{10}}, {[]int{15}, circuit(4, [2]int{5, 6}), []int{11}}, {[]int{15, 11}, circuit(4, [2]int{2, 7}, [2]int{5, 6}), []int{13, 11}}, {[]int{12, 3}, circuit(4, [2]int{2, 7}, [2]int{8, 11}), []int{12, 3}}, {[]int{17}, g, []int{17}}, {[]int{17, 15, 1}, g, []int{17, 15, 1}},
	} {
		cone, l, e := gates.Cone(g, x.literals...)
		if !equal(cone, x.want) || !slices.Equal(l, x.moved) || e != api.OK {
			t.Error(i, x, cone, l, e)
		}
	}
	// The gates that are left refer to others by new literals.
	g = circuit(2, [2]int{2, 4}, [2]int{3, 5}, [2]int{2, 9}, [2]int{7, 10}, [2]int{4, 11})
	cone, l, e := gates.Cone(g, 14)
	if !equal(cone, circuit(2, [2]int{3, 5}, [2]int{2, 7}, [2]int{4, 9})) || !slices.Equal(l, []int{10}) || e != api.OK {
		t.Error(cone, l, e)
	}
	for i, x := range []struct {
		g        api.Gates
		literals []int
	}{
		{g, []int{-1}}, {g, []int{16}}, {g, []int{2, 17}}, {g, []int{math.MinInt}}, {g, []int{2, math.MaxInt}}, {circuit(2, [2]int{4, 2}), []int{2}}, {circuit(2, [2]int{2, 4}, [2]int{2, 4}), nil}, {circuit(-1), nil}, {circuit(api.MaxList + 1), []int{0}},
	} {
		if cone, l, e := gates.Cone(x.g, x.literals...); !equal(cone, circuit(0)) || len(l) != 0 || e != api.ErrArg {
			t.Error(i, x, cone, l, e)
		}
	}
}

func TestArgumentsAreLeftAlone(t *testing.T) {
	g := circuit(2, [2]int{2, 4}, [2]int{2, 5}, [2]int{6, 9}, [2]int{3, 5})
	literals, input := []int{10, 4}, []bool{true, false}
	more := append(input, true)
	for range 2 {
		if l, e := gates.Eval(g, more[:2], literals...); !slices.Equal(l, []bool{false, false}) || e != api.OK {
			t.Error(l, e)
		}
		if l := gates.Support(g, literals...); !slices.Equal(l, []int{0, 1}) {
			t.Error(l)
		}
		cone, l, e := gates.Cone(g, literals...)
		if !equal(cone, circuit(2, [2]int{2, 4}, [2]int{2, 5}, [2]int{6, 9})) || !slices.Equal(l, literals) || e != api.OK {
			t.Error(cone, l, e)
		}
		// What is done to results changes nothing.
		cone.Gates[0], l[0] = [2]int{3, 4}, 0
		_ = append(cone.Gates, [2]int{0, 0})
		_ = append(l, 1)
	}
	if !equal(g, circuit(2, [2]int{2, 4}, [2]int{2, 5}, [2]int{6, 9}, [2]int{3, 5})) || !slices.Equal(literals, []int{10, 4}) || !slices.Equal(more, []bool{true, false, true}) {
		t.Error(g, literals, more)
	}
}
