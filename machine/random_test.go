package machine_test

import (
	"math/rand"
	"reflect"
	"slices"
	"strconv"
	"testing"

	"assessor/api"
	"assessor/checker"
	"assessor/compiler"
	"assessor/interpreter"
	"assessor/machine"
	"assessor/samples"
)

// generator makes random well-formed code, also such that no program has.
type generator struct {
	*rand.Rand
	before    []api.CodeProcedure
	procedure api.CodeProcedure
}

func (g *generator) code() api.Code {
	g.before = nil
	for i := range 1 + g.Intn(4) {
		x := api.CodeProcedure{Name: "p" + strconv.Itoa(i), Slots: 1 + g.Intn(6), Result: g.Intn(4) - 1}
		x.Parameters = g.Intn(min(x.Slots, 3) + 1)
		if x.Result < 0 {
			for range g.Intn(4) {
				x.Outputs = append(x.Outputs, g.Intn(x.Slots))
			}
		}
		g.procedure = x
		x.Body = g.list(3, true, 0)
		if g.Intn(6) > 0 {
			x.Body = append(x.Body, g.list(0, false, max(x.Result, 0))...)
			x.Body = append(x.Body, api.Instr{Op: api.InstrReturn})
		}
		g.before = append(g.before, x)
	}
	return api.Code{Procedures: g.before}
}

// list returns instructions with an effect.
func (g *generator) list(levels int, outermost bool, effect int) []api.Instr {
	var l []api.Instr
	height := 0
	for range g.Intn(9) {
		i, change, ok := g.instruction(height, levels, outermost)
		if ok {
			l = append(l, i)
			height += change
		}
	}
	for ; height > effect; height-- {
		l = append(l, api.Instr{Op: api.InstrStore, A: g.Intn(g.procedure.Slots)})
	}
	for ; height < effect; height++ {
		l = append(l, g.value())
	}
	return l
}

// value returns an instruction that pushes a scalar.
func (g *generator) value() api.Instr {
	if g.Intn(2) == 0 {
		return api.Instr{Op: api.InstrLoad, A: g.Intn(g.procedure.Slots)}
	}
	return api.Instr{Op: api.InstrPush, A: []int{0, 1, 2, 3, g.Intn(200), g.Intn(api.MaxNumber + 1)}[g.Intn(6)]}
}

// instruction returns one that is right behind a height, and what it adds to the height; false if there is none.
func (g *generator) instruction(height, levels int, outermost bool) (api.Instr, int, bool) {
	from := g.Intn(g.procedure.Slots)
	count := 1 + g.Intn(g.procedure.Slots-from)
	switch op := g.Intn(30); {
	case op == api.InstrStore && height >= 1:
		return api.Instr{Op: op, A: from}, -1, true
	case op == api.InstrLoadAt && height >= 1:
		return api.Instr{Op: op, A: from, B: count}, 0, true
	case op == api.InstrStoreAt && height >= 2:
		return api.Instr{Op: op, A: from, B: count}, -2, true
	case op >= api.InstrAdd && op <= api.InstrAtLeast && height >= 2:
		return api.Instr{Op: op}, -1, true
	case (op == api.InstrNegate || op == api.InstrNot) && height >= 1:
		return api.Instr{Op: op}, 0, true
	case op == api.InstrAssert && height >= 1:
		return api.Instr{Op: op}, -1, true
	case op == api.InstrIf && height >= 1 && levels > 0:
		there, effect := outermost && height == 1, g.Intn(3)
		return api.Instr{Op: op, Body: g.list(levels-1, there, effect), Else: g.list(levels-1, there, effect)}, effect - 1, true
	case op == api.InstrLoop && height == 0 && levels > 0 && outermost:
		return api.Instr{Op: op, Body: g.list(levels-1, true, 0), Else: g.list(levels-1, false, 1)}, 0, true
	case op == api.InstrReturn && outermost && height == max(g.procedure.Result, 0) && g.Intn(3) == 0:
		return api.Instr{Op: op}, -height, true
	case op == api.InstrCall && len(g.before) > 0:
		called := g.Intn(len(g.before))
		x := g.before[called]
		return api.Instr{Op: op, A: called}, max(x.Result, 0) + len(x.Outputs) - x.Parameters, height >= x.Parameters
	case op > api.InstrAssert:
		return g.value(), 1, true
	}
	return api.Instr{}, 0, false
}

// input returns ints of a width, which are often small.
func (g *generator) input(width, count int) []int {
	var l []int
	for range count {
		l = append(l, []int{0, 1, -1, g.Intn(1<<width) - 1<<(width-1)}[g.Intn(4)])
	}
	return l
}

// bounds returns some that are valid.
func bounds(r *rand.Rand) api.Bounds {
	return api.Bounds{Width: api.MinWidth + r.Intn(7), Loops: r.Intn(api.MaxLoops + 1)}
}

// P15.1

func TestRunsLikeTheDefinition(t *testing.T) {
	g := &generator{Rand: rand.New(rand.NewSource(1))}
	found := map[int]int{}
	used := map[int]int{}
	for range 6000 {
		c := g.code()
		if !compiler.Valid(c) {
			t.Fatal(c)
		}
		var note func(l []api.Instr)
		note = func(l []api.Instr) {
			for _, i := range l {
				used[i.Op]++
				note(i.Body)
				note(i.Else)
			}
		}
		for k, x := range c.Procedures {
			note(x.Body)
			b := bounds(g.Rand)
			cost, _ := compiler.Cost(c, k, b.Loops)
			if cost > 1<<16 {
				continue
			}
			for range 3 {
				input := g.input(b.Width, x.Parameters)
				want := newReference(c, b).run(k, input)
				got := run(t, c, k, b, input...)
				if !same(got, want) {
					t.Fatalf("%s%d %v %v\n%v instead of %v", compiler.Format(c), k, b, input, got, want)
				}
				if again := run(t, c, k, b, input...); !same(got, again) || got.count > cost {
					t.Fatal(compiler.Format(c), k, b, input, again, cost)
				}
				found[got.fault]++
			}
		}
	}
	for fault := api.FaultNone; fault <= api.FaultLimit; fault++ {
		if found[fault] < 300 {
			t.Error(fault, found)
		}
	}
	for op := api.InstrPush; op <= api.InstrAssert; op++ {
		if used[op] < 200 {
			t.Error(op, used)
		}
	}
}

// P15.3

func TestCodeHasTheOutcomeOfTheInterpreter(t *testing.T) {
	r := rand.New(rand.NewSource(2))
	found := map[int]int{}
	for range 600 {
		_, s := samples.Program(r)
		p, wrong, _ := checker.Check(s)
		if s == "" || len(wrong) > 0 {
			continue
		}
		c, e := compiler.Compile(p)
		places, _ := compiler.Places(p)
		if e != api.OK {
			t.Fatal(s, e)
		}
		b := bounds(r)
		for _, x := range p.Procedures {
			for range 4 {
				input := samples.Scalars(r, p.Records, b.Width, x.Variables[:x.Parameters]...)
				want, node, e := interpreter.Run(p, x.Name, b, input)
				if e != api.OK {
					break
				}
				k, _ := compiler.Find(c, x.Name)
				got := run(t, c, k, b, input...)
				at := -1
				switch got.fault {
				case api.FaultNone:
				case api.FaultReturn:
					at = p.Procedures[checker.Order(p)[got.procedure]].Node
				default:
					at = places[got.procedure][got.number]
				}
				if got.fault != want.Fault || !slices.Equal(got.out, want.Out) || at != node {
					t.Fatalf("%s\n%s %v %v: %v at %d instead of %v at %d", s, x.Name, b, input, got, at, want, node)
				}
				if cost, _ := compiler.Cost(c, k, b.Loops); got.count > cost {
					t.Fatal(s, x.Name, b, got.count, cost)
				}
				found[got.fault]++
			}
		}
	}
	for fault := api.FaultNone; fault <= api.FaultLimit; fault++ {
		if found[fault] < 60 {
			t.Error(fault, found)
		}
	}
}

// P15.2: what an operation does in code is what Apply does.

func TestApplyLikeCode(t *testing.T) {
	g := &generator{Rand: rand.New(rand.NewSource(3))}
	for range 5000 {
		b := bounds(g.Rand)
		op := api.InstrAdd + g.Intn(api.InstrNot-api.InstrAdd+1)
		input := g.input(b.Width, 4)
		body := []api.Instr{{Op: api.InstrLoad}, {Op: api.InstrLoad, A: 1}, {Op: api.InstrLoad, A: 2}, {Op: api.InstrLoad, A: 3}, {Op: op}, {Op: api.InstrReturn}}
		x := api.CodeProcedure{Name: "f", Parameters: 4, Slots: 4, Result: 3, Body: body}
		if op >= api.InstrNegate {
			x.Result = 4
		}
		got := run(t, api.Code{Procedures: []api.CodeProcedure{x}}, 0, b, input...)
		kept := slices.Clone(input)
		stack, fault, e := machine.Apply(b.Width, op, input)
		if e != api.OK || fault != got.fault || fault == api.FaultNone && !slices.Equal(stack, got.out) || fault != api.FaultNone && !slices.Equal(stack, input[:2]) || !reflect.DeepEqual(kept, input) {
			t.Fatal(b, op, input, stack, fault, e, got)
		}
	}
}

func FuzzRun(f *testing.F) {
	for _, s := range []string{"proc f 1 1 1\n  load 0\n  push 0\n  greater\n  if\n    load 0\n  else\n    push 0\n  end\n  return\nend\n", "proc a 0 1 -1 0\nloop\nload 0\nnot\ndo\npush 7\nstore 0\nend\nend\nproc b 0 2 -1\ncall 0\npush 3\nstoreat 0 2\nend", ""} {
		f.Add(s, 0, 4, 3, 0)
	}
	f.Fuzz(func(t *testing.T, s string, procedure, width, loops, scalar int) {
		c, _ := compiler.Parse(s)
		b := api.Bounds{Width: width, Loops: loops}
		var input []int
		if procedure >= 0 && procedure < len(c.Procedures) {
			input = slices.Repeat([]int{scalar}, c.Procedures[procedure].Parameters)
		}
		if cost, e := compiler.Cost(c, procedure, loops); e == api.OK && cost > 1<<20 {
			t.Skip()
		}
		if _, _, _, e := machine.Run(c, procedure, b, input); e != api.OK {
			return
		}
		if got, want := run(t, c, procedure, b, input...), newReference(c, b).run(procedure, input); !same(got, want) {
			t.Fatal(s, procedure, b, input, got, want)
		}
	})
}
