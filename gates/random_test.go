package gates_test

import (
	"math/rand"
	"slices"
	"testing"

	"assessor/api"
	"assessor/gates"
)

// inputs is how many inputs random circuits have at most.
const inputs = 5

// made is the literals that a test made, each with its values for all inputs, as the bits of a number.
type made struct {
	inputs   int
	literals []int
	values   []uint32
}

// mask has the bits of all inputs.
func (m *made) mask() uint32 { return uint32(1<<(1<<m.inputs) - 1) }

// note notes a literal.
func (m *made) note(x int, values uint32) {
	m.literals = append(m.literals, x)
	m.values = append(m.values, values)
}

// start notes the constants and the inputs.
func start(t *testing.T, b *gates.Builder, n int) *made {
	t.Helper()
	m := &made{inputs: n}
	m.note(0, 0)
	m.note(1, m.mask())
	for i := range n {
		var values uint32
		for k := range 1 << n {
			values |= uint32(k>>i&1) << k
		}
		m.note(b.Input(i), values)
	}
	return m
}

// step makes a random literal of those that there are.
func (m *made) step(t *testing.T, r *rand.Rand, b *gates.Builder) {
	t.Helper()
	var l [3]int
	var v [3]uint32
	for i := range l {
		k := r.Intn(len(m.literals))
		l[i], v[i] = m.literals[k], m.values[k]
		if r.Intn(2) == 0 {
			l[i], v[i] = gates.Not(l[i]), ^v[i]&m.mask()
		}
	}
	x, y, c := l[0], l[1], l[2]
	a, o, d := v[0], v[1], v[2]
	for _, made := range []struct {
		again func() int
		value uint32
	}{
		{func() int { return b.And(x, y) }, a & o}, {func() int { return b.Or(x, y) }, a | o}, {func() int { return b.Xor(x, y) }, a ^ o}, {func() int { return b.Mux(c, x, y) }, d&a | ^d&o},
	} {
		if r.Intn(4) > 0 {
			continue
		}
		z := made.again()
		n := b.Len()
		// A literal that is made again is the same one, and needs no new gate.
		if again := made.again(); again != z || b.Len() != n || b.Err() != api.OK {
			t.Fatal(b.Circuit(), x, y, c, z, again)
		}
		m.note(z, made.value&m.mask())
	}
}

// values returns the values of literals for all inputs, as bits.
func values(t *testing.T, g api.Gates, literals []int) []uint32 {
	t.Helper()
	all := make([]uint32, len(literals))
	for k := range 1 << g.Inputs {
		var input []bool
		for i := range g.Inputs {
			input = append(input, k>>i&1 == 1)
		}
		l, e := gates.Eval(g, input, literals...)
		if e != api.OK || len(l) != len(literals) {
			t.Fatal(g, literals, l, e)
		}
		for i, holds := range l {
			if holds {
				all[i] |= 1 << k
			}
		}
	}
	return all
}

// P24.4

func TestRandomCircuits(t *testing.T) {
	r := rand.New(rand.NewSource(1))
	for range 600 {
		n := r.Intn(inputs + 1)
		b := builder(t, n)
		m := start(t, b, n)
		for range r.Intn(40) {
			m.step(t, r, b)
		}
		g := b.Circuit()
		if !gates.Valid(g) || b.Len() != 1+n+len(g.Gates) || b.Err() != api.OK {
			t.Fatal(g)
		}
		if v := values(t, g, m.literals); !slices.Equal(v, m.values) {
			t.Fatal(g, m, v)
		}
		// The gates that are made one by one, in their order, are those of the circuit.
		again := builder(t, n)
		for i, gate := range g.Gates {
			if z := again.And(gate[1], gate[0]); z != 2*(1+n+i) {
				t.Fatal(g, i, z)
			}
		}
		built(t, again, g)
	}
}

// needed returns the nodes from which a path leads to one of some literals, by following all paths backwards.
func needed(g api.Gates, literals []int) map[int]bool {
	found := map[int]bool{}
	var visit func(n int)
	visit = func(n int) {
		if found[n] {
			return
		}
		found[n] = true
		if n > g.Inputs {
			visit(g.Gates[n-g.Inputs-1][0] / 2)
			visit(g.Gates[n-g.Inputs-1][1] / 2)
		}
	}
	for _, x := range literals {
		visit(x / 2)
	}
	return found
}

// reference returns the cone of literals by the definition, as a list of gates and the new numbers of nodes.
func reference(g api.Gates, literals []int) (api.Gates, []int) {
	found := needed(g, literals)
	number := func(n int) int {
		if n <= g.Inputs {
			return n
		}
		before := g.Inputs + 1
		for k := g.Inputs + 1; k < n; k++ {
			if found[k] {
				before++
			}
		}
		return before
	}
	moved := func(x int) int { return 2*number(x/2) + x%2 }
	cone := api.Gates{Inputs: g.Inputs}
	for i, gate := range g.Gates {
		if found[g.Inputs+1+i] {
			cone.Gates = append(cone.Gates, [2]int{moved(gate[0]), moved(gate[1])})
		}
	}
	var l []int
	for _, x := range literals {
		l = append(l, moved(x))
	}
	return cone, l
}

func TestRandomCones(t *testing.T) {
	r := rand.New(rand.NewSource(2))
	for range 600 {
		n := r.Intn(inputs + 1)
		b := builder(t, n)
		m := start(t, b, n)
		for range r.Intn(30) {
			m.step(t, r, b)
		}
		g := b.Circuit()
		var literals []int
		for range r.Intn(4) {
			literals = append(literals, r.Intn(2*b.Len()))
		}
		cone, l, e := gates.Cone(g, literals...)
		want, moved := reference(g, literals)
		if !equal(cone, want) || !slices.Equal(l, moved) || e != api.OK {
			t.Fatal(g, literals, cone, l, e)
		}
		if again, k, e := gates.Cone(cone, l...); !equal(again, cone) || !slices.Equal(k, l) || e != api.OK {
			t.Fatal(cone, l, again, k, e)
		}
		if !gates.Valid(cone) || !slices.Equal(values(t, g, literals), values(t, cone, l)) {
			t.Fatal(g, literals, cone, l)
		}
		supports(t, g, literals)
	}
}

// supports fails if the support of literals is not what the definition says, or a literal has another value if other inputs change.
func supports(t *testing.T, g api.Gates, literals []int) {
	t.Helper()
	found := needed(g, literals)
	var want []int
	for i := range g.Inputs {
		if found[i+1] {
			want = append(want, i)
		}
	}
	l := gates.Support(g, literals...)
	if !slices.Equal(l, want) {
		t.Fatal(g, literals, l, want)
	}
	for i, v := range values(t, g, literals) {
		for k := range 1 << g.Inputs {
			var only int
			for _, n := range l {
				only |= k & (1 << n)
			}
			if v>>k&1 != v>>only&1 {
				t.Fatal(g, literals[i], l)
			}
		}
	}
}

func TestRandomListsOfGates(t *testing.T) {
	r := rand.New(rand.NewSource(3))
	valid := 0
	for range 20000 {
		g := api.Gates{Inputs: r.Intn(4)}
		for range r.Intn(4) {
			g.Gates = append(g.Gates, [2]int{r.Intn(12), r.Intn(12)})
		}
		// A list of gates is valid if a builder makes just these gates of it.
		b := builder(t, g.Inputs)
		want := true
		for i, gate := range g.Gates {
			want = want && gate[0] < gate[1] && b.And(gate[0], gate[1]) == 2*(1+g.Inputs+i) && b.Len() == 2+g.Inputs+i
		}
		if gates.Valid(g) != want {
			t.Fatal(g, want)
		}
		if want && len(g.Gates) > 0 {
			valid++
		}
	}
	if valid < 100 {
		t.Error(valid)
	}
}
