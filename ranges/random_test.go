package ranges_test

import (
	"math/rand"
	"slices"
	"strconv"
	"strings"
	"testing"

	"assessor/api"
	"assessor/checker"
	"assessor/dataflow"
	"assessor/flow"
	"assessor/interpreter"
	"assessor/ranges"
	"assessor/samples"
	"assessor/trace"
	"assessor/tree"
	"assessor/value"
)

// random returns a random program.
func random(t *testing.T, r *rand.Rand) api.Program {
	t.Helper()
	for {
		if n, s := samples.Program(r); len(n.Kids) > 0 {
			if p, _, e := checker.Check(s); e == api.OK {
				return p
			}
		}
	}
}

// around returns random intervals, for some variables, that contain their scalars in a list.
func around(r *rand.Rand, width int, l []api.Variable, scalars []int) []api.Range {
	var all []api.Range
	for _, v := range l {
		n, least, greatest := 0, 0, 0
		switch v.Type.Kind {
		case api.TypeInt:
			n, least, greatest = scalars[v.Slot], value.Least(width), value.Greatest(width)
		case api.TypeBool:
			n, least, greatest = scalars[v.Slot], 0, 1
		}
		far := []int{0, 1, 3, 256}[r.Intn(4)]
		all = append(all, to(max(least, n-r.Intn(far+1)), min(greatest, n+r.Intn(far+1))))
	}
	return all
}

// wider returns intervals that contain others.
func wider(r *rand.Rand, width int, l []api.Variable, narrow []api.Range) []api.Range {
	all := slices.Clone(narrow)
	for i, v := range l {
		switch {
		case r.Intn(3) == 0:
		case v.Type.Kind == api.TypeInt:
			all[i] = to(max(value.Least(width), all[i].Lo-r.Intn(4)), min(value.Greatest(width), all[i].Hi+r.Intn(4)))
		case v.Type.Kind == api.TypeBool:
			all[i] = to(0, 1)
		}
	}
	return all
}

// contain reports whether intervals contain others.
func contain(l, parts []api.Range) bool {
	return slices.EqualFunc(l, parts, func(r, part api.Range) bool { return r.Lo <= part.Lo && part.Hi <= r.Hi })
}

// expressions returns the numbers of the expressions of the types int and bool in a procedure.
func expressions(p api.Program, procedure int) []int {
	var l []int
	path, _ := tree.Path(p.Tree, p.Procedures[procedure].Node)
	n, _ := tree.Get(p.Tree, path...)
	for i := range tree.Count(n) {
		number := p.Procedures[procedure].Node + i
		if k := p.Types[number].Kind; k == api.TypeInt || k == api.TypeBool {
			l = append(l, number)
		}
	}
	return l
}

// P21.1

// evaluate checks that the value of an expression in a frame lies in its interval, and in the restricted store, and reports whether there is a value.
func evaluate(t *testing.T, p api.Program, number, width int, f api.Frame, l []api.Range) bool {
	t.Helper()
	got, fault, _, e := interpreter.Evaluate(p, number, api.Bounds{Width: width, Loops: 2}, f)
	if e != api.OK || fault != api.FaultNone {
		return false
	}
	if r, _ := ranges.Expression(p, number, width, l); got[0] < r.Lo || got[0] > r.Hi {
		t.Fatal(p.Tree, number, width, l, "has", got, "not in", r)
	}
	if p.Types[number].Kind != api.TypeBool {
		return true
	}
	r, ok, _ := ranges.Restrict(p, number, width, got[0] == 1, l)
	if !ok {
		t.Fatal(p.Tree, number, width, l, "has", got)
	}
	for i, v := range p.Procedures[f.Procedure].Variables {
		if k := v.Type.Kind; (k == api.TypeInt || k == api.TypeBool) && (f.Slots[v.Slot] < r[i].Lo || f.Slots[v.Slot] > r[i].Hi) {
			t.Fatal(p.Tree, number, width, l, "has", got, "with", f.Slots, "not in", r)
		}
	}
	return true
}

func TestRandomExpressions(t *testing.T) {
	r := rand.New(rand.NewSource(1))
	count := 0
	for range 700 {
		p := random(t, r)
		for i, x := range p.Procedures {
			width := 2 + r.Intn(3)
			reference := read(p, i, width)
			f := api.Frame{Procedure: i, Call: -1, Slots: samples.Scalars(r, p.Records, width, x.Variables...)}
			l := around(r, width, x.Variables, f.Slots)
			for _, number := range expressions(p, i) {
				if got, e := ranges.Expression(p, number, width, l); got != reference.interval(number, l) || e != api.OK {
					t.Fatal(p.Tree, number, width, l, got, e)
				}
				if evaluate(t, p, number, width, f, l) {
					count++
				}
				if p.Types[number].Kind != api.TypeBool {
					continue
				}
				for _, truth := range []bool{false, true} {
					got, ok, e := ranges.Restrict(p, number, width, truth, l)
					if want, has := reference.restrict(number, truth, l); !slices.Equal(got, want) || ok != has || e != api.OK {
						t.Fatal(p.Tree, number, width, truth, l, got, want)
					}
				}
			}
		}
	}
	if count < 10000 {
		t.Error("only", count, "values")
	}
}

func TestAllIntervalsOfAWidth(t *testing.T) {
	s := "proc f(x: int, y: int) { var a = x + y; a = x - y; a = x * y; a = x / y; a = x % y; var c = x == y; c = x != y; c = x < y; c = x <= y; c = x > y; c = x >= y; }"
	p := checked(t, s)
	reference := read(p, 0, 3)
	var all []api.Range
	for i, k := range pairs(to(-4, 3), to(-4, 3)) {
		if i <= k {
			all = append(all, to(i, k))
		}
	}
	for _, operator := range strings.Fields("+ - * / % == != < <= > >=") {
		number := numberOf(t, p, s, "x "+operator+" y", api.NodeBinary)
		for i, k := range pairs(to(0, len(all)-1), to(0, len(all)-1)) {
			l := store(all[i], all[k], to(0, 0), to(0, 1))
			if r, e := ranges.Expression(p, number, 3, l); r != reference.binary(operator, all[i], all[k]) || e != api.OK {
				t.Fatal(operator, l, r, e)
			}
			for _, truth := range []bool{false, true} {
				got, ok, e := ranges.Restrict(p, number, 3, truth, l)
				if p.Types[number].Kind == api.TypeInt {
					if e != api.ErrNotFound {
						t.Fatal(operator, e)
					}
					continue
				}
				if want, has := reference.restrict(number, truth, l); !slices.Equal(got, want) || ok != has || e != api.OK {
					t.Fatal(operator, truth, l, got, want, e)
				}
			}
		}
	}
}

// P21.2

func TestRandomAnalyses(t *testing.T) {
	r := rand.New(rand.NewSource(2))
	count := 0
	for range 800 {
		p := random(t, r)
		for i, x := range p.Procedures {
			width := 2 + r.Intn(3)
			parameters := x.Variables[:x.Parameters]
			l := around(r, width, parameters, samples.Scalars(r, p.Records, width, parameters...))
			f, _ := flow.Of(p, i)
			got, e := ranges.Analyze(p, i, width, l)
			if want := read(p, i, width).analyze(f, l); !same(got, want) || e != api.OK {
				t.Fatal(p.Tree, i, width, l, got, want)
			}
			for _, front := range got {
				count += len(front)
			}
		}
	}
	if count < 10000 {
		t.Error("only", count, "intervals")
	}
}

// P21.3

func TestRoundsOfRuns(t *testing.T) {
	p := checked(t, "proc f(a: int, b: int, var n: int) { for i = a to b { n = n + 1; } }")
	for loops := range api.MaxLoops + 1 {
		bounds := api.Bounds{Width: 5, Loops: loops}
		for a, b := range pairs(to(-16, 15), to(-16, 15)) {
			o, _, e := interpreter.Run(p, "f", bounds, []int{a, b, 0})
			n, ok := ranges.Rounds(bounds, a, b)
			if e != api.OK || ok != (o.Fault == api.FaultNone) || ok && n != o.Out[0] || !ok && n != 0 {
				t.Fatal(bounds, a, b, n, ok, o, e)
			}
		}
	}
}

// P21.4

// inside checks for a run whose input lies in some ranges that what the statements of the entry procedure use lies in the intervals, and returns how many values it looked at.
func inside(t *testing.T, p api.Program, procedure int, b api.Bounds, input []int, l []api.Range) int {
	t.Helper()
	x, width := p.Procedures[procedure], b.Width
	s, e := trace.New(p, x.Name, b, input)
	if e != api.OK {
		return 0
	}
	front, _ := ranges.Analyze(p, procedure, width, l)
	accesses, _ := dataflow.Accesses(p, procedure)
	f, _ := flow.Of(p, procedure)
	count := 0
	for e, ok := s.Next(); ok && s.At() < 1000; e, ok = s.Next() {
		if e.Kind != api.EventStatement || e.Depth != 0 {
			continue
		}
		point := flow.Points(f, e.Node)[0]
		slots := s.Frames()[0].Slots
		if len(front[point]) != len(x.Variables) {
			t.Fatal(p.Tree, procedure, width, l, input, "nothing at", e.Node)
		}
		for _, i := range accesses[point].Uses {
			v, r := x.Variables[i], front[point][i]
			if v.Type.Kind != api.TypeInt && v.Type.Kind != api.TypeBool {
				continue
			}
			if slots[v.Slot] < r.Lo || slots[v.Slot] > r.Hi {
				t.Fatal(p.Tree, procedure, width, l, input, v, "at", e.Node, "is", slots[v.Slot], "not in", r)
			}
			count++
		}
	}
	return count
}

func TestRunsLieInIntervals(t *testing.T) {
	r := rand.New(rand.NewSource(3))
	count := 0
	for range 2500 {
		p := random(t, r)
		for i, x := range p.Procedures {
			b := api.Bounds{Width: 2 + r.Intn(7), Loops: 1 + r.Intn(3)}
			parameters := x.Variables[:x.Parameters]
			input := samples.Scalars(r, p.Records, b.Width, parameters...)
			count += inside(t, p, i, b, input, around(r, b.Width, parameters, input))
		}
	}
	if count < 4000 {
		t.Error("only", count, "values")
	}
}

func TestRunsOfLoopsLieInIntervals(t *testing.T) {
	count := 0
	for _, s := range []string{
		"proc f(x: int, y: int) { while x < y { x = x + 1; if x == 2 { y = y - 1; } } x = y; }",
		"proc f(x: int, y: int) { var z = 0; while z != x { z = z + 1; assert z <= 5; } y = z; }",
		"proc f(x: int, y: int) { for i = x to y { if i % 2 == 0 { x = x + i; } else { y = y - i; } } x = x; }",
		"proc g(var a: int, b: int) { a = a * b; } proc f(x: int, y: int) { while not (x == 0 or y > 3) { g(x, y); y = y + 1; if x / 2 > 1 { return; } } x = -y; }",
		"proc f(x: int, y: int) { var c = x > y; while c { y = y + 1; c = c and y < 6; var z = x - y; for i = y to 3 { z = z * 2; } c = c and z < 7; } x = x % 3; }",
		"proc f(x: int, y: int) { for i = 0 to 2 { for j = i to x { y = y + j; } x = x - 1; } while y >= 3 { y = y - 3; } x = y; }",
	} {
		p := checked(t, s)
		last := len(p.Procedures) - 1
		for width := 3; width < 6; width++ {
			l := store(to(-2, 3), to(-1, 2))
			for x, y := range pairs(l[0], l[1]) {
				count += inside(t, p, last, api.Bounds{Width: width, Loops: 8}, []int{x, y}, l)
			}
		}
	}
	if count < 4000 {
		t.Error("only", count, "values")
	}
}

func TestGreaterRanges(t *testing.T) {
	r := rand.New(rand.NewSource(4))
	for range 500 {
		p := random(t, r)
		for i, x := range p.Procedures {
			width := 2 + r.Intn(7)
			l := around(r, width, x.Variables, samples.Scalars(r, p.Records, width, x.Variables...))
			wide := wider(r, width, x.Variables, l)
			for _, number := range expressions(p, i) {
				a, _ := ranges.Expression(p, number, width, l)
				if b, e := ranges.Expression(p, number, width, wide); !contain(store(b), store(a)) || e != api.OK {
					t.Fatal(p.Tree, number, width, l, wide, a, b, e)
				}
				for _, truth := range []bool{false, true} {
					a, narrow, _ := ranges.Restrict(p, number, width, truth, l)
					if b, ok, _ := ranges.Restrict(p, number, width, truth, wide); narrow && (!ok || !contain(b, a)) {
						t.Fatal(p.Tree, number, width, truth, l, wide, a, b)
					}
				}
			}
			a, _ := ranges.Analyze(p, i, width, l[:x.Parameters])
			b, e := ranges.Analyze(p, i, width, wide[:x.Parameters])
			for point := range a {
				if len(a[point]) > 0 && !contain(b[point], a[point]) || e != api.OK {
					t.Fatal(p.Tree, i, width, l, wide, point, a[point], b[point], e)
				}
			}
		}
	}
}

// growing returns the text of a block of a for that grows, with variables x, y and z.
func growing(r *rand.Rand) string {
	s := ""
	for range r.Intn(5) {
		name, n := string("xyz"[r.Intn(3)]), strconv.Itoa([]int{0, 1, 2, 7, 300, 999999999}[r.Intn(6)])
		s += name + " = " + []string{name + " + " + n, n + " + " + name, name + " - " + n}[r.Intn(3)] + "; "
	}
	return s
}

func TestGrowthOfRuns(t *testing.T) {
	r := rand.New(rand.NewSource(5))
	count := 0
	for range 3000 {
		p := checked(t, "proc f(a: int, b: int, var x: int, var y: int, var z: int) { for i = a to b { "+growing(r)+"} }")
		steps, e := ranges.Grows(p, 0, p.Procedures[0].Variables[5].Node)
		if e != api.OK {
			t.Fatal(p.Tree, e)
		}
		b := api.Bounds{Width: 2 + r.Intn(7), Loops: r.Intn(9)}
		input := samples.Scalars(r, nil, b.Width, p.Procedures[0].Variables[:5]...)
		want := slices.Clone(input[2:])
		rounds, ok := ranges.Rounds(b, input[0], input[1])
		for _, g := range steps {
			want[g.Variable-2] = value.Wrap(b.Width, want[g.Variable-2]+g.Step*rounds)
		}
		o, _, e := interpreter.Run(p, "f", b, input)
		if e != api.OK || ok != (o.Fault == api.FaultNone) || ok && !slices.Equal(o.Out, want) {
			t.Fatal(p.Tree, b, input, steps, rounds, o, want)
		}
		count += rounds
	}
	if count < 1000 {
		t.Error("only", count, "rounds")
	}
}
