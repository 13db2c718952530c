package blast_test

import (
	"math/rand"
	"slices"
	"testing"

	"assessor/api"
	"assessor/bitvec"
	"assessor/blast"
	"assessor/gates"
)

// argumentSorts returns the sorts of the arguments that an operator needs.
func argumentSorts(op int) []int {
	switch op {
	case api.OpNeg:
		return []int{number}
	case api.OpNot:
		return []int{truth}
	case api.OpAnd, api.OpOr, api.OpSame:
		return []int{truth, truth}
	case api.OpChoose:
		return []int{truth, number, number}
	case api.OpPick:
		return []int{truth, truth, truth}
	}
	return []int{number, number}
}

// sample is a table with random nodes, and the sorts of its inputs.
type sample struct {
	table *bitvec.Table
	sorts []int
	// nodes is the nodes of each sort.
	nodes map[int][]int
}

// grow adds a random node.
func (s *sample) grow(t *testing.T, r *rand.Rand) {
	t.Helper()
	width := s.table.Width()
	x := api.Term{Op: r.Intn(api.OpLess + 1)}
	switch x.Op {
	case api.OpInput, api.OpFlag:
		x.Value = r.Intn(len(s.sorts))
		x.Op = []int{api.OpInput, api.OpFlag}[s.sorts[x.Value]]
	case api.OpNumber:
		x.Value = bitvec.Wrap(width, []int{0, 1, -1, 1 << (width - 1), r.Intn(256)}[r.Intn(5)])
	case api.OpTruth:
		x.Value = r.Intn(2)
	default:
		for k, sort := range argumentSorts(x.Op) {
			l := s.nodes[sort]
			if len(l) == 0 {
				return
			}
			x.Args[k] = l[r.Intn(len(l))]
		}
	}
	i, e := s.table.Make(x)
	if e != api.OK {
		t.Fatal(x, e)
	}
	sort, _ := s.table.Sort(i)
	if !slices.Contains(s.nodes[sort], i) {
		s.nodes[sort] = append(s.nodes[sort], i)
	}
}

// input returns random inputs.
func (s *sample) input(r *rand.Rand) []int {
	var l []int
	for _, sort := range s.sorts {
		n := r.Intn(2)
		if sort == number {
			n = bitvec.Wrap(s.table.Width(), r.Intn(256))
		}
		l = append(l, n)
	}
	return l
}

// random returns a sample with some nodes, and some of these as roots.
func random(t *testing.T, r *rand.Rand, count int) (*sample, []int) {
	t.Helper()
	s := &sample{table: table(t, 2+r.Intn(7)), nodes: map[int][]int{}}
	for range 1 + r.Intn(6) {
		s.sorts = append(s.sorts, r.Intn(2))
	}
	for range count {
		s.grow(t, r)
	}
	var roots []int
	for range r.Intn(4) {
		if s.table.Len() > 0 {
			roots = append(roots, s.table.Len()-1-r.Intn(min(s.table.Len(), 12)))
		}
	}
	return s, roots
}

// P25.3

func TestRandomTables(t *testing.T) {
	r := rand.New(rand.NewSource(1))
	large := 0
	for range 1500 {
		s, roots := random(t, r, 1+r.Intn(80))
		n, sorts, copies := s.table.Len(), slices.Clone(s.sorts), slices.Clone(roots)
		g, words, e := blast.Blast(s.table, s.sorts, roots...)
		_, bits, _ := blast.Words(s.table.Width(), s.sorts)
		if e != api.OK || !gates.Valid(g) || g.Inputs != bits || len(words) != len(roots) || s.table.Len() != n || !slices.Equal(s.sorts, sorts) || !slices.Equal(roots, copies) {
			t.Fatal(s.sorts, roots, e)
		}
		large += boolean(len(g.Gates) > 300)
		for range 8 {
			agrees(t, s.table, g, s.sorts, s.input(r), roots, words)
		}
		s.properties(t, g, roots, words)
		// The same arguments give the same circuit.
		again, same, _ := blast.Blast(s.table, s.sorts, roots...)
		if !slices.Equal(again.Gates, g.Gates) || !equalWords(same, words) {
			t.Fatal(s.sorts, roots)
		}
	}
	if large < 50 {
		t.Error(large)
	}
}

// P25.4

// properties fails if words of roots have not the properties that follow.
func (s *sample) properties(t *testing.T, g api.Gates, roots []int, words [][]int) {
	t.Helper()
	width := s.table.Width()
	inputs, _, _ := blast.Words(width, s.sorts)
	needed := 0
	for i, root := range roots {
		var bits []int
		for _, n := range s.table.Inputs(root) {
			for _, x := range inputs[n] {
				bits = append(bits, x/2-1)
			}
		}
		for _, n := range gates.Support(g, words[i]...) {
			if !slices.Contains(bits, n) {
				t.Fatal(root, words[i], n, bits)
			}
		}
		isConstant := func(x int) bool { return x == 0 || x == 1 }
		if len(bits) == 0 && slices.ContainsFunc(words[i], func(x int) bool { return !isConstant(x) }) {
			t.Fatal(root, words[i])
		}
		needed += s.table.Size(root)
	}
	if len(g.Gates) > 100*width*width*needed {
		t.Fatal(len(g.Gates), needed)
	}
}

func TestRandomTablesWithoutInputs(t *testing.T) {
	r := rand.New(rand.NewSource(2))
	for range 300 {
		s := &sample{table: table(t, 2+r.Intn(7)), nodes: map[int][]int{}}
		for _, x := range []api.Term{{Op: api.OpNumber, Value: bitvec.Wrap(s.table.Width(), r.Intn(256))}, {Op: api.OpNumber, Value: -1}, {Op: api.OpTruth, Value: 1}, {Op: api.OpTruth}} {
			i := add(t, s.table, x.Op, x.Value)
			sort, _ := s.table.Sort(i)
			s.nodes[sort] = append(s.nodes[sort], i)
		}
		for range 30 {
			op := api.OpNeg + r.Intn(api.OpLess-api.OpNeg+1)
			var args []int
			for _, sort := range argumentSorts(op) {
				args = append(args, s.nodes[sort][r.Intn(len(s.nodes[sort]))])
			}
			i := add(t, s.table, op, 0, args...)
			sort, _ := s.table.Sort(i)
			s.nodes[sort] = append(s.nodes[sort], i)
		}
		var roots []int
		for i := range s.table.Len() {
			roots = append(roots, i)
		}
		g, words, e := blast.Blast(s.table, nil, roots...)
		if len(g.Gates) > 0 || e != api.OK {
			t.Fatal(g, e)
		}
		s.properties(t, g, roots, words)
		agrees(t, s.table, g, nil, nil, roots, words)
	}
}
