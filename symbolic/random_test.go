package symbolic_test

import (
	"math/rand"
	"slices"
	"strconv"
	"strings"
	"testing"

	"assessor/api"
	"assessor/bitvec"
	"assessor/checker"
	"assessor/interpreter"
	"assessor/samples"
	"assessor/simplify"
	"assessor/symbolic"
	"assessor/trace"
)

// random returns a random checked program with its text; false if it is not right.
func random(r *rand.Rand) (api.Program, string, bool) {
	_, s := samples.Calm(r)
	if r.Intn(4) == 0 {
		_, s = samples.Program(r)
	}
	p, wrong, e := checker.Check(s)
	return p, s, s != "" && len(wrong) == 0 && e == api.OK
}

// mixed makes nodes of some sorts of all kinds: inputs, constants, and what they are made of.
func mixed(t *testing.T, r *rand.Rand, b *bitvec.Table, sorts []int) []int {
	t.Helper()
	integer := func() int { return add(t, b, api.OpInput, r.Intn(3)) }
	truth := func() int { return add(t, b, api.OpFlag, 3+r.Intn(3)) }
	number := func() int { return add(t, b, api.OpNumber, r.Intn(4)-2) }
	var l []int
	for _, sort := range sorts {
		var n int
		switch k := r.Intn(8); {
		case sort == api.SortInt && k < 4:
			n = integer()
		case sort == api.SortInt && k < 6:
			n = number()
		case sort == api.SortInt:
			n = add(t, b, api.OpAdd, 0, integer(), number())
		case k < 4:
			n = truth()
		case k == 4:
			n = add(t, b, api.OpTruth, r.Intn(2))
		case k == 5:
			n = add(t, b, api.OpNot, 0, truth())
		case k == 6:
			n = add(t, b, api.OpOr, 0, truth(), truth())
		default:
			n = add(t, b, api.OpLess, 0, integer(), number())
		}
		l = append(l, n)
	}
	return l
}

// values returns inputs for the nodes that mixed makes.
func values(r *rand.Rand, width int) []int {
	var l []int
	for range 3 {
		l = append(l, bitvec.Wrap(width, []int{0, 1, 2, r.Intn(256)}[r.Intn(4)]))
	}
	for range 3 {
		l = append(l, r.Intn(2))
	}
	return l
}

// sized returns the number of nodes as a class of sizes.
func sized(n int) string {
	switch {
	case n < 20:
		return "small"
	case n < 100:
		return "middle"
	}
	return "large"
}

// P29.2, P29.3, P29.4

func TestRunsLikeTheInterpreter(t *testing.T) {
	r := rand.New(rand.NewSource(1))
	count := map[string]int{}
	for range 1000 {
		p, s, ok := random(r)
		if !ok {
			continue
		}
		b := api.Bounds{Width: api.MinWidth + r.Intn(7), Loops: r.Intn(api.MaxLoops + 1)}
		for i, x := range p.Procedures {
			if cost, _ := checker.Cost(p, i, b.Loops); cost > api.MaxCost {
				continue
			}
			parameters, results := signature(p, x)
			terms := table(t, b.Width)
			in := mixed(t, r, terms, parameters)
			run, e := symbolic.Run(terms, p, x.Name, b, in)
			if e == api.ErrTooLarge && terms.Len() == api.MaxTerms {
				count["too large"]++
				continue
			}
			if e != api.OK || !hasSorts(terms, run.Fault, slices.Repeat([]int{api.SortBool}, 6)) || !hasSorts(terms, run.Out, results) {
				t.Fatal(s, x.Name, b, run, e)
			}
			count[sized(terms.Len())]++
			paths, e := symbolic.Paths(terms, p, x.Name, b, in, 100)
			if e != api.OK && e != api.ErrTooLarge {
				t.Fatal(s, x.Name, b, e)
			}
			for range 8 {
				input := values(r, b.Width)
				want, _, _ := interpreter.Run(p, x.Name, b, all(t, terms, in, input))
				if o := outcome(t, terms, run, input); !same(o, want) {
					t.Fatalf("%s\n%s %v %v %v: %v instead of %v", s, x.Name, b, in, input, o, want)
				}
				if e == api.OK {
					if _, o := taken(t, terms, paths, input); !same(o, want) {
						t.Fatalf("%s\n%s %v %v %v: %v instead of %v", s, x.Name, b, in, input, o, want)
					}
					count["path"]++
				}
				count[strconv.Itoa(want.Fault)]++
			}
		}
	}
	for _, name := range strings.Fields("small middle large path 0 1 2 3 4 5") {
		if count[name] < 30 {
			t.Error(name, count)
		}
	}
}

func TestConstantsLikeTheInterpreter(t *testing.T) {
	r := rand.New(rand.NewSource(2))
	var found [api.FaultLimit + 1]int
	for range 200 {
		p, s, ok := random(r)
		if !ok {
			continue
		}
		b := api.Bounds{Width: api.MinWidth + r.Intn(7), Loops: r.Intn(4)}
		for i, x := range p.Procedures {
			if cost, _ := checker.Cost(p, i, b.Loops); cost > api.MaxCost {
				continue
			}
			parameters, _ := signature(p, x)
			terms := table(t, b.Width)
			input := samples.Scalars(r, p.Records, b.Width, x.Variables[:x.Parameters]...)
			want, _, _ := interpreter.Run(p, x.Name, b, input)
			in := constants(t, terms, parameters, input)
			run, e := symbolic.Run(terms, p, x.Name, b, in)
			if e != api.OK || !same(outcome(t, terms, run, nil), want) {
				t.Fatal(s, x.Name, b, input, run, e)
			}
			paths, e := symbolic.Paths(terms, p, x.Name, b, in, 1)
			if n, ok := simplify.Constant(terms, paths[0].Condition); e != api.OK || len(paths) != 1 || n != 1 || !ok {
				t.Fatal(s, x.Name, b, input, paths, e)
			}
			if _, o := taken(t, terms, paths, nil); !same(o, want) {
				t.Fatal(s, x.Name, b, input, paths)
			}
			for i := range terms.Len() {
				if _, ok := simplify.Constant(terms, i); !ok {
					t.Fatal(s, x.Name, b, input, i)
				}
			}
			found[want.Fault]++
		}
	}
	for fault, n := range found {
		if n < 10 {
			t.Error(fault, found)
		}
	}
}

// deciders returns the numbers of the nodes whose values decide on the way of a run: conditions, the left operands of and and or, and each for.
func deciders(n api.Node) map[int]bool {
	l := map[int]bool{}
	next := 0
	var walk func(n api.Node)
	walk = func(n api.Node) {
		number := next
		next++
		switch {
		case n.Kind == api.NodeFor:
			l[number] = true
		case n.Kind == api.NodeIf, n.Kind == api.NodeWhile, n.Kind == api.NodeAssert, n.Kind == api.NodeBinary && (n.Text == "and" || n.Text == "or"):
			l[next] = true
		}
		for _, k := range n.Kids {
			walk(k)
		}
	}
	walk(n)
	return l
}

// way returns the way that a run takes, and how it ends.
func way(t *testing.T, p api.Program, decides map[int]bool, entry string, b api.Bounds, input []int) string {
	t.Helper()
	l, e := trace.Events(p, entry, b, input)
	if e != api.OK {
		t.Fatal(e)
	}
	var w strings.Builder
	for _, x := range l {
		if x.Kind == api.EventTest && decides[x.Node] {
			w.WriteString(strconv.Itoa(x.Value))
		}
	}
	return w.String() + " " + strconv.Itoa(l[len(l)-1].Value)
}

// P29.3

func TestPathsAreWays(t *testing.T) {
	r := rand.New(rand.NewSource(3))
	several, equal := 0, 0
	for range 400 {
		p, s, ok := random(r)
		if !ok {
			continue
		}
		decides := deciders(p.Tree)
		b := api.Bounds{Width: api.MinWidth + r.Intn(7), Loops: r.Intn(5)}
		for i, x := range p.Procedures {
			if cost, _ := checker.Cost(p, i, b.Loops); cost > api.MaxCost || x.Parameters == 0 {
				continue
			}
			terms := table(t, b.Width)
			in := inputs(t, terms, p, x.Name)
			paths, e := symbolic.Paths(terms, p, x.Name, b, in, 60)
			if e == api.ErrTooLarge {
				continue
			}
			ways, of := map[int]string{}, map[string]int{}
			for range 30 {
				input := samples.Scalars(r, p.Records, b.Width, x.Variables[:x.Parameters]...)
				i, o := taken(t, terms, paths, input)
				w := way(t, p, decides, x.Name, b, input)
				if old, ok := ways[i]; ok && old != w {
					t.Fatal(s, x.Name, b, input, i, w, old)
				}
				ways[i] = w
				// Without a fault, there is nothing else that divides paths.
				if k, ok := of[w]; ok && k != i && o.Fault == api.FaultNone {
					t.Fatal(s, x.Name, b, input, w, i, k)
				}
				if o.Fault == api.FaultNone {
					if _, ok := of[w]; ok {
						equal++
					}
					of[w] = i
				}
			}
			if len(ways) > 2 {
				several++
			}
		}
	}
	if several < 100 || equal < 1000 {
		t.Error(several, equal)
	}
}
