package blast_test

import (
	"math"
	"math/rand"
	"slices"
	"testing"

	"assessor/api"
	"assessor/blast"
	"assessor/gates"
)

// operation is an operator on words. Its results are in one list, with a literal as a word.
type operation struct {
	name string
	// words is how many words the operator needs, behind a literal if it has a condition.
	words     int
	condition bool
	build     func(b *gates.Builder, c int, l ...[]int) [][]int
	// value is the integers that results stand for; those of single is 0 or 1.
	value  func(c, x, y int) []int
	single bool
}

func boolean(is bool) int {
	if is {
		return 1
	}
	return 0
}

// operations returns all operators on words.
func operations() []operation {
	two := func(f func(b *gates.Builder, x, y []int) []int) func(*gates.Builder, int, ...[]int) [][]int {
		return func(b *gates.Builder, _ int, l ...[]int) [][]int { return [][]int{f(b, l[0], l[1])} }
	}
	literal := func(f func(b *gates.Builder, x, y []int) int) func(*gates.Builder, int, ...[]int) [][]int {
		return func(b *gates.Builder, _ int, l ...[]int) [][]int { return [][]int{{f(b, l[0], l[1])}} }
	}
	return []operation{
		{name: "Neg", words: 1, build: func(b *gates.Builder, _ int, l ...[]int) [][]int { return [][]int{blast.Neg(b, l[0])} }, value: func(_, x, _ int) []int { return []int{-x} }},
		{name: "Add", words: 2, build: two(blast.Add), value: func(_, x, y int) []int { return []int{x + y} }},
		{name: "Sub", words: 2, build: two(blast.Sub), value: func(_, x, y int) []int { return []int{x - y} }},
		{name: "Mul", words: 2, build: two(blast.Mul), value: func(_, x, y int) []int { return []int{x * y} }},
		{name: "Divide", words: 2, build: func(b *gates.Builder, _ int, l ...[]int) [][]int {
			q, r := blast.Divide(b, l[0], l[1])
			return [][]int{q, r}
		}, value: func(_, x, y int) []int {
			if y == 0 {
				return []int{0, x}
			}
			return []int{x / y, x - y*(x/y)}
		}},
		{name: "Equal", words: 2, build: literal(blast.Equal), value: func(_, x, y int) []int { return []int{boolean(x == y)} }, single: true},
		{name: "Less", words: 2, build: literal(blast.Less), value: func(_, x, y int) []int { return []int{boolean(x < y)} }, single: true},
		{name: "Choose", words: 2, condition: true, build: func(b *gates.Builder, c int, l ...[]int) [][]int { return [][]int{blast.Choose(b, c, l[0], l[1])} }, value: func(c, x, y int) []int {
			return []int{[]int{y, x}[c]}
		}},
	}
}

// none reports whether results are zero.
func (o operation) none(results [][]int) bool {
	for _, l := range results {
		if o.single && !slices.Equal(l, []int{0}) || !o.single && len(l) > 0 {
			return false
		}
	}
	return true
}

// builder returns a builder of a circuit without gates.
func builder(t *testing.T, inputs int) *gates.Builder {
	t.Helper()
	b, e := gates.New(inputs)
	if e != api.OK {
		t.Fatal(inputs, e)
	}
	return b
}

// simulate returns the values of the nodes of a circuit for all inputs, as bits: the bit i of the number of an input (of all of them together) is that of the input i.
func simulate(g api.Gates) [][]uint64 {
	size := max(1, 1<<g.Inputs/64)
	nodes := [][]uint64{make([]uint64, size)}
	for i := range g.Inputs {
		v := make([]uint64, size)
		for k := range 1 << g.Inputs {
			v[k/64] |= uint64(k>>i&1) << (k % 64)
		}
		nodes = append(nodes, v)
	}
	for _, gate := range g.Gates {
		v := make([]uint64, size)
		for k := range v {
			v[k] = nodes[gate[0]/2][k] ^ -uint64(gate[0]%2)
			v[k] &= nodes[gate[1]/2][k] ^ -uint64(gate[1]%2)
		}
		nodes = append(nodes, v)
	}
	return nodes
}

// integer returns what a word is for one of the inputs of a simulation.
func integer(nodes [][]uint64, word []int, k int) int {
	n := 0
	for i, x := range word {
		bit := int(nodes[x/2][k/64]>>(k%64)&1) ^ x%2
		n += bit << i
		if i == len(word)-1 {
			n -= bit << len(word)
		}
	}
	return n
}

// same reports whether two numbers are the same integer of a number of bits.
func same(a, b, bits int) bool { return (a-b)%(1<<bits) == 0 }

// P25.2

// agrees fails if results have not the value of an operator for all inputs of a circuit.
func (o operation) agrees(t *testing.T, g api.Gates, c int, words, results [][]int) {
	t.Helper()
	nodes := simulate(g)
	length := len(words[0])
	if o.single {
		length = 1
	}
	for k := range 1 << g.Inputs {
		x, y := integer(nodes, words[0], k), integer(nodes, words[len(words)-1], k)
		for i, want := range o.value(-integer(nodes, []int{c}, k), x, y) {
			if n := integer(nodes, results[i], k); len(results[i]) != length || !same(n, want, length) {
				t.Fatal(o.name, g, c, words, results, k, x, y, n, want)
			}
		}
	}
}

func TestOperatorsOnAllIntegers(t *testing.T) {
	for _, o := range operations() {
		for width := 1; width <= api.MaxWidth; width++ {
			b := builder(t, o.words*width+boolean(o.condition))
			var words [][]int
			for k := range o.words {
				var word []int
				for i := range width {
					word = append(word, b.Input(k*width+i))
				}
				words = append(words, word)
			}
			c := 0
			if o.condition {
				c = b.Input(o.words * width)
			}
			results := o.build(b, c, words...)
			g := b.Circuit()
			if b.Err() != api.OK || !gates.Valid(g) {
				t.Fatal(o.name, width, b.Err())
			}
			o.agrees(t, g, c, words, results)
			// What is built again is there already.
			if again := o.build(b, c, words...); !equalWords(again, results) || len(b.Circuit().Gates) != len(g.Gates) {
				t.Error(o.name, width, results, again)
			}
			if len(g.Gates) > 100*width*width {
				t.Error(o.name, width, len(g.Gates))
			}
		}
	}
}

// word returns a word of random literals of a circuit.
func word(r *rand.Rand, b *gates.Builder, width int) []int {
	var l []int
	for range width {
		l = append(l, r.Intn(2*b.Len()))
		if r.Intn(3) == 0 {
			l[len(l)-1] = r.Intn(2)
		}
	}
	return l
}

func TestOperatorsOnRandomWords(t *testing.T) {
	r := rand.New(rand.NewSource(1))
	all := operations()
	for range 3000 {
		b := builder(t, r.Intn(7))
		var last [][]int
		for range 1 + r.Intn(4) {
			o, width := all[r.Intn(len(all))], 1+r.Intn(api.MaxWidth)
			c := word(r, b, 1)[0]
			words := [][]int{word(r, b, width), word(r, b, width)}[:o.words]
			if len(last) > 0 && r.Intn(2) == 0 && len(last[0]) == width {
				words[0] = last[0]
			}
			if r.Intn(8) == 0 {
				words[len(words)-1] = words[0]
			}
			copies := make([][]int, len(words))
			for i := range words {
				copies[i] = slices.Clone(words[i])
			}
			last = o.build(b, c, words...)
			if b.Err() != api.OK || !equalWords(words, copies) {
				t.Fatal(o.name, words, copies, b.Err())
			}
			o.agrees(t, b.Circuit(), c, words, last)
		}
	}
}

func TestConstantsNeedNoGates(t *testing.T) {
	r := rand.New(rand.NewSource(2))
	for range 4000 {
		for _, o := range operations() {
			b := builder(t, 0)
			width := 1 + r.Intn(api.MaxWidth)
			words := [][]int{word(r, b, width), word(r, b, width)}[:o.words]
			c := r.Intn(2)
			results := o.build(b, c, words...)
			if b.Len() != 1 || b.Err() != api.OK {
				t.Fatal(o.name, words, b.Circuit())
			}
			o.agrees(t, b.Circuit(), c, words, results)
		}
	}
}

func TestWordsThatDoNotFit(t *testing.T) {
	one := []int{2}
	eight := slices.Repeat(one, 8)
	nine := slices.Repeat(one, 9)
	// Other lengths come before literals that do not exist.
	pairs := [][2][]int{{nil, nil}, {{}, {}}, {nine, nine}, {one, nil}, {nil, one}, {one, {2, 4}}, {{2, 4}, one}, {eight, nine}, {nine, eight}, {eight, one}, {make([]int, 1000), make([]int, 1000)}, {{-1}, nil}, {{2, 1000}, one}, {nil, {1000}}, {one, {2, 1000}}, {slices.Repeat([]int{1000}, 9), slices.Repeat([]int{1000}, 9)}}
	for _, o := range operations() {
		for i, l := range pairs {
			if n := len(l[0]); o.words == 1 && 0 < n && n < 9 {
				continue
			}
			for _, c := range []int{2, 0, 1, -1, 1000} {
				b := builder(t, 3)
				b.And(2, 4)
				if results := o.build(b, c, l[:o.words]...); !o.none(results) || b.Err() != api.OK || b.Len() != 5 {
					t.Error(o.name, i, c, results, b.Err(), b.Len())
				}
			}
		}
	}
}

func TestLiteralsThatDoNotExist(t *testing.T) {
	const inputs = 17
	first := 2 * (1 + inputs)
	for _, o := range operations() {
		for _, width := range []int{1, 2, 3, 8} {
			// The first ones would exist as soon as there are some gates.
			for _, wrong := range []int{first, first + 1, first + 2, first + 5, first + 20, -1, -2, math.MinInt, math.MinInt + 1, math.MaxInt, math.MaxInt - 1} {
				for at := range o.words*width + boolean(o.condition) {
					b := builder(t, inputs)
					var all []int
					for i := range o.words*width + 1 {
						all = append(all, b.Input(i))
					}
					all[at] = wrong
					words := [][]int{all[:width], all[width : o.words*width]}
					o.build(b, all[o.words*width], words[:o.words]...)
					if b.Err() != api.ErrArg || b.Len() != 1+inputs {
						t.Error(o.name, width, wrong, at, b.Err(), b.Len())
					}
				}
			}
		}
	}
}

// filled returns a builder of a circuit with some nodes, 1024 of which are inputs.
func filled(t *testing.T, nodes int) *gates.Builder {
	t.Helper()
	b := builder(t, api.MaxList)
	for x := 2; b.Len() < nodes; x += 2 {
		for y := x + 2; y <= 2*api.MaxList && b.Len() < nodes; y += 2 {
			b.And(x, y)
		}
	}
	if b.Len() != nodes || b.Err() != api.OK {
		t.Fatal(b.Len(), b.Err())
	}
	return b
}

func TestCircuitsThatAreFull(t *testing.T) {
	x, y := []int{1801, 1803, 1805}, []int{1807, 1809, 1811}
	for _, o := range operations() {
		for _, free := range []int{0, 1, 2} {
			b := filled(t, api.MaxVariables-free)
			if results := o.build(b, 1813, [][]int{x, y}[:o.words]...); !o.none(results) || b.Err() != api.ErrTooLarge || b.Len() > api.MaxVariables || !gates.Valid(b.Circuit()) {
				t.Error(o.name, free, results, b.Err(), b.Len())
			}
			// The first error stays, and nothing is built any more.
			before := b.Len()
			if results := o.build(b, 1, [][]int{{2, 3}, {4, -5}}[:o.words]...); !o.none(results) || b.Err() != api.ErrTooLarge || b.Len() != before {
				t.Error(o.name, free, results, b.Err(), b.Len())
			}
		}
		// What needs no gates can still be built.
		b := filled(t, api.MaxVariables)
		if results := o.build(b, 1, [][]int{{1, 1}, {0, 1}}[:o.words]...); b.Err() != api.OK || b.Len() != api.MaxVariables {
			t.Error(o.name, results, b.Err())
		}
	}
}

func TestResultsAreNew(t *testing.T) {
	x, y := []int{2, 4, 6, 8}, []int{10, 12, 14, 16}
	for _, o := range operations() {
		b := builder(t, 8)
		for _, c := range []int{0, 1} {
			for range 2 {
				words := [][]int{x[:3], y[:3]}[:o.words]
				results := o.build(b, c, words...)
				for _, l := range results {
					for i := range l {
						l[i] = -1
					}
					_ = append(l, -1)
				}
				again := o.build(b, c, words...)
				o.agrees(t, b.Circuit(), c, words, again)
			}
		}
	}
	if !slices.Equal(x, []int{2, 4, 6, 8}) || !slices.Equal(y, []int{10, 12, 14, 16}) {
		t.Error(x, y)
	}
}
