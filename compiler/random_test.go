package compiler_test

import (
	"math/rand"
	"reflect"
	"slices"
	"strings"
	"testing"

	"assessor/api"
	"assessor/checker"
	"assessor/compiler"
	"assessor/interpreter"
	"assessor/lexer"
	"assessor/names"
	"assessor/samples"
	"assessor/value"
)

// wellFormed is the chapter's definition of well-formed code.
func wellFormed(c api.Code) bool {
	count, all := 0, map[string]bool{}
	if len(c.Procedures) > api.MaxProcedures {
		return false
	}
	for i, x := range c.Procedures {
		if all[x.Name] || !lexer.Name(x.Name) || x.Parameters < 0 || x.Slots < x.Parameters || x.Slots > api.MaxNodes || x.Result < -1 || x.Result > api.MaxSlots || len(x.Outputs) > api.MaxSlots || x.Result >= 0 && len(x.Outputs) > 0 {
			return false
		}
		all[x.Name] = true
		for _, slot := range x.Outputs {
			if slot < 0 || slot >= x.Slots {
				return false
			}
		}
		n, levels := measure(x.Body)
		count += n
		if effect, ok := effectOf(c, i, x.Body, true); !ok || effect != 0 || levels > 256 || count > 1<<15 {
			return false
		}
	}
	return true
}

// measure returns the number of instructions and of levels.
func measure(l []api.Instr) (int, int) {
	count, levels := len(l), 0
	for _, i := range l {
		for _, part := range [][]api.Instr{i.Body, i.Else} {
			n, inner := measure(part)
			count, levels = count+n, max(levels, inner)
		}
	}
	return count, levels + min(len(l), 1)
}

func effectOf(c api.Code, procedure int, l []api.Instr, outermost bool) (int, bool) {
	x := c.Procedures[procedure]
	h := 0
	for _, i := range l {
		needs, adds, operands := 0, 0, 0
		switch {
		case i.Op == api.InstrPush || i.Op == api.InstrLoad:
			needs, adds, operands = 0, 1, 1
		case i.Op == api.InstrStore:
			needs, adds, operands = 1, -1, 1
		case i.Op == api.InstrLoadAt:
			needs, adds, operands = 1, 0, 2
		case i.Op == api.InstrStoreAt:
			needs, adds, operands = 2, -2, 2
		case api.InstrAdd <= i.Op && i.Op <= api.InstrAtLeast:
			needs, adds = 2, -1
		case i.Op == api.InstrNegate || i.Op == api.InstrNot:
			needs = 1
		case i.Op == api.InstrAssert || i.Op == api.InstrIf:
			needs, adds = 1, -1
		case i.Op == api.InstrLoop:
		case i.Op == api.InstrReturn:
			needs, adds = h, -h
			if !outermost || h != max(x.Result, 0) {
				return 0, false
			}
		case i.Op == api.InstrCall:
			operands = 1
			if i.A < 0 || i.A >= procedure {
				return 0, false
			}
			needs, adds = c.Procedures[i.A].Parameters, -c.Procedures[i.A].Parameters
			if r := c.Procedures[i.A].Result; r >= 0 {
				adds += r
			} else {
				adds += len(c.Procedures[i.A].Outputs)
			}
		default:
			return 0, false
		}
		nests := i.Op == api.InstrIf || i.Op == api.InstrLoop
		wrong := operands < 1 && i.A != 0 || operands < 2 && i.B != 0 || !nests && len(i.Body)+len(i.Else) > 0 || h < needs
		wrong = wrong || i.Op == api.InstrPush && (i.A < 0 || i.A > api.MaxNumber) || (i.Op == api.InstrLoad || i.Op == api.InstrStore) && (i.A < 0 || i.A >= x.Slots)
		wrong = wrong || operands == 2 && (i.A < 0 || i.B < 1 || i.B > x.Slots || i.A > x.Slots-i.B)
		if wrong {
			return 0, false
		}
		h += adds
		if nests {
			loop := i.Op == api.InstrLoop
			inner := outermost && h == 0
			one, ok := effectOf(c, procedure, i.Body, inner)
			two, also := effectOf(c, procedure, i.Else, inner && !loop)
			if !ok || !also || loop && (!inner || one != 0 || two != 1) || !loop && one != two {
				return 0, false
			}
			h += one
		}
		if h > api.MaxNodes {
			return 0, false
		}
	}
	return h, true
}

// machine runs code as chapter 15 says, and counts the instructions.
type machine struct {
	c     api.Code
	b     api.Bounds
	count *int
}

// stop is a fault at an instruction of a procedure.
type stop struct{ fault, procedure, number int }

// body is a run of a procedure.
type body struct {
	machine
	procedure    int
	slots, stack []int
}

func (m machine) call(procedure int, input []int) ([]int, *stop) {
	x := m.c.Procedures[procedure]
	r := &body{machine: m, procedure: procedure, slots: make([]int, x.Slots)}
	copy(r.slots, input)
	number := 0
	_, s := r.list(x.Body, &number)
	if s == nil && x.Result >= 0 {
		n, _ := measure(x.Body)
		s = &stop{api.FaultReturn, procedure, n}
	}
	switch {
	case s != nil && s.fault != api.FaultNone:
		return nil, s
	case x.Result >= 0:
		return r.stack, nil
	}
	var out []int
	for _, slot := range x.Outputs {
		out = append(out, r.slots[slot])
	}
	return out, nil
}

func (r *body) pop() int {
	x := r.stack[len(r.stack)-1]
	r.stack = r.stack[:len(r.stack)-1]
	return x
}

// list executes instructions of which the first one has a number; a stop without a fault is a return.
func (r *body) list(l []api.Instr, number *int) (int, *stop) {
	for _, i := range l {
		at := *number
		*r.count++
		inner, _ := measure(i.Body)
		behind, _ := measure(i.Else)
		fault := func(kind int) *stop { return &stop{kind, r.procedure, at} }
		run := func(l []api.Instr, number int) *stop { _, s := r.list(l, &number); return s }
		var s *stop
		switch i.Op {
		case api.InstrIf:
			if r.pop() != 0 {
				s = run(i.Body, at+1)
			} else {
				s = run(i.Else, at+1+inner)
			}
		case api.InstrLoop:
			for rounds := 0; s == nil; rounds++ {
				if s = run(i.Else, at+1+inner); s != nil || r.pop() == 0 {
					break
				}
				if rounds == r.b.Loops {
					s = fault(api.FaultLimit)
					break
				}
				s = run(i.Body, at+1)
			}
		case api.InstrCall:
			from := len(r.stack) - r.c.Procedures[i.A].Parameters
			var out []int
			out, s = r.call(i.A, slices.Clone(r.stack[from:]))
			r.stack = append(r.stack[:from], out...)
		default:
			s = r.simple(i, fault)
		}
		if s != nil {
			return 0, s
		}
		*number = at + 1 + inner + behind
	}
	return 0, nil
}

func (r *body) simple(i api.Instr, fault func(int) *stop) *stop {
	push := func(x int) { r.stack = append(r.stack, value.Wrap(r.b.Width, x)) }
	switch i.Op {
	case api.InstrPush:
		push(i.A)
	case api.InstrLoad:
		push(r.slots[i.A])
	case api.InstrStore:
		r.slots[i.A] = r.pop()
	case api.InstrLoadAt:
		x := r.pop()
		if x < 0 || x >= i.B {
			return fault(api.FaultIndex)
		}
		push(r.slots[i.A+x])
	case api.InstrStoreAt:
		x, y := r.pop(), r.pop()
		if y < 0 || y >= i.B {
			return fault(api.FaultIndex)
		}
		r.slots[i.A+y] = x
	case api.InstrNegate:
		push(-r.pop())
	case api.InstrNot:
		push(1 - r.pop())
	case api.InstrReturn:
		return fault(api.FaultNone)
	case api.InstrAssert:
		if r.pop() == 0 {
			return fault(api.FaultAssert)
		}
	default:
		x, y := r.pop(), r.pop()
		n, kind, e := value.Binary(r.b.Width, strings.Fields("+ - * / % == != < <= > >=")[i.Op-api.InstrAdd], y, x)
		if e != api.OK {
			panic(e)
		}
		if kind != api.FaultNone {
			return fault(kind)
		}
		push(n)
	}
	return nil
}

// program returns a random checked program and its text; false if it is too long.
func program(r *rand.Rand) (api.Program, string, bool) {
	_, s := samples.Program(r)
	p, l, _ := checker.Check(s)
	return p, s, s != "" && len(l) == 0
}

// P14.4, and P14.1 by what the code does.

func TestCodeDoesWhatTheProgramDoes(t *testing.T) {
	r := rand.New(rand.NewSource(1))
	found := map[int]int{}
	for range 600 {
		p, s, ok := program(r)
		if !ok {
			continue
		}
		c, e := compiler.Compile(p)
		places, f := compiler.Places(p)
		if e != api.OK || f != api.OK || !compiler.Valid(c) || !wellFormed(c) || len(places) != len(c.Procedures) {
			t.Fatal(s, c, e, f)
		}
		b := api.Bounds{Width: 2 + r.Intn(7), Loops: r.Intn(9)}
		for _, x := range p.Procedures {
			k, ok := compiler.Find(c, x.Name)
			if n, _ := measure(c.Procedures[k].Body); !ok || n != len(places[k]) {
				t.Fatal(s, c, places)
			}
			for range 4 {
				input := samples.Scalars(r, p.Records, b.Width, x.Variables[:x.Parameters]...)
				want, at, e := interpreter.Run(p, x.Name, b, input)
				if e != api.OK {
					break
				}
				count := 0
				out, stopped := machine{c, b, &count}.call(k, input)
				got, node := api.Outcome{Out: out}, -1
				if stopped != nil {
					got = api.Outcome{Fault: stopped.fault}
					node = p.Procedures[checker.Order(p)[stopped.procedure]].Node
					if stopped.fault != api.FaultReturn {
						node = places[stopped.procedure][stopped.number]
					}
				}
				if got.Fault != want.Fault || !slices.Equal(got.Out, want.Out) || node != at {
					t.Fatalf("%s\n%s\n%s %v %v: %v at %d instead of %v at %d", s, compiler.Format(c), x.Name, b, input, got, node, want, at)
				}
				found[got.Fault]++
				if cost, e := compiler.Cost(c, k, b.Loops); e != api.OK || cost < count {
					t.Fatal(s, x.Name, cost, count, e)
				}
			}
		}
	}
	for fault := api.FaultNone; fault <= api.FaultLimit; fault++ {
		if found[fault] < 60 {
			t.Error(found)
		}
	}
}

func TestReadingTheTextOfCodeGivesIt(t *testing.T) {
	r := rand.New(rand.NewSource(2))
	for range 200 {
		p, s, ok := program(r)
		if !ok {
			continue
		}
		c, _ := compiler.Compile(p)
		text := compiler.Format(c)
		if d, e := compiler.Parse(text); !reflect.DeepEqual(c, d) || e != api.OK || compiler.Format(d) != text {
			t.Fatal(s, text, d, e)
		}
		wide := ""
		for line := range strings.Lines(text) {
			wide += strings.Repeat("\n", r.Intn(2)) + strings.Repeat(" ", r.Intn(3)) + strings.ReplaceAll(strings.TrimSpace(line), " ", strings.Repeat(" ", 1+r.Intn(3))) + strings.Repeat(" ", r.Intn(2)) + "\n"
		}
		if d, e := compiler.Parse(wide); !reflect.DeepEqual(c, d) || e != api.OK {
			t.Fatal(wide, d, e)
		}
	}
}

func TestSpaceAndNamesOfVariablesChangeNoCode(t *testing.T) {
	r := rand.New(rand.NewSource(3))
	compared := 0
	for range 200 {
		p, s, ok := program(r)
		if !ok {
			continue
		}
		c, _ := compiler.Compile(p)
		places, _ := compiler.Places(p)
		var others []api.Program
		if q, l, e := checker.Check(samples.Spread(r, s)); e == api.OK && len(l) == 0 {
			others = append(others, q)
		}
		declared, _, _ := names.Resolve(p.Tree)
		d := r.Intn(len(declared.Declarations))
		if kind := declared.Declarations[d].Kind; kind != api.DeclProcedure {
			n, _ := names.Rename(p.Tree, d, "new_name")
			q, _, _ := checker.Tree(n)
			others = append(others, q)
		}
		for _, q := range others {
			d, e := compiler.Compile(q)
			l, f := compiler.Places(q)
			if !reflect.DeepEqual(c, d) || !reflect.DeepEqual(places, l) || e != api.OK || f != api.OK {
				t.Fatal(s, d, e)
			}
			compared++
		}
	}
	if compared < 200 {
		t.Error(compared)
	}
}

// spoil changes an instruction of a list, or the list.
func spoil(r *rand.Rand, l []api.Instr) []api.Instr {
	l = slices.Clone(l)
	if len(l) == 0 {
		return []api.Instr{{Op: r.Intn(24)}}
	}
	k := r.Intn(len(l))
	i := &l[k]
	nests := len(i.Body)+len(i.Else) > 0
	switch n := r.Intn(12); {
	case n < 4 && nests && r.Intn(2) == 0:
		i.Body = spoil(r, i.Body)
	case n < 4 && nests:
		i.Else = spoil(r, i.Else)
	case n < 4:
		i.A += r.Intn(7) - 3
	case n == 4:
		i.B += r.Intn(5) - 2
	case n == 5:
		i.Op = r.Intn(25) - 1
	case n == 6:
		i.Body, i.Else = i.Else, i.Body
	case n == 7:
		return slices.Delete(l, k, k+1)
	case n == 8:
		return slices.Insert(l, k, api.Instr{Op: []int{api.InstrReturn, api.InstrPush, api.InstrAssert, api.InstrLoop}[r.Intn(4)]})
	case n == 9:
		return slices.Insert(l, k, api.Instr{}, api.Instr{Op: []int{api.InstrAssert, api.InstrIf, api.InstrNot}[r.Intn(3)], Body: slices.Clone(l[k:])})
	case n == 10:
		other := r.Intn(len(l))
		l[k], l[other] = l[other], l[k]
	default:
		return slices.Insert(l, k, api.Instr{}, api.Instr{}, api.Instr{Op: api.InstrAdd + r.Intn(11)}, api.Instr{Op: api.InstrAssert})
	}
	return l
}

func TestValidLikeTheDefinition(t *testing.T) {
	r := rand.New(rand.NewSource(4))
	count := map[bool]int{}
	for range 400 {
		p, _, ok := program(r)
		if !ok {
			continue
		}
		for range 20 {
			c, _ := compiler.Compile(p)
			for range 1 + r.Intn(2) {
				x := &c.Procedures[r.Intn(len(c.Procedures))]
				switch r.Intn(12) {
				case 0:
					x.Parameters += r.Intn(3) - 1
				case 1:
					x.Slots += r.Intn(3) - 1
				case 2:
					x.Result += r.Intn(3) - 1
				case 3:
					x.Outputs = append(x.Outputs, r.Intn(4)-1)
				default:
					x.Body = spoil(r, x.Body)
				}
			}
			want := wellFormed(c)
			if compiler.Valid(c) != want || (compiler.Format(c) != "") != want {
				t.Fatal(c, want)
			}
			if _, e := compiler.Cost(c, 0, 3); (e == api.OK) != want {
				t.Fatal(c, e)
			}
			if d, e := compiler.Parse(compiler.Format(c)); want && (!reflect.DeepEqual(normal(c), normal(d)) || e != api.OK) {
				t.Fatal(c, d, e)
			}
			count[want]++
		}
	}
	if count[true] < 1000 || count[false] < 1000 {
		t.Error(count)
	}
}

// normal returns code whose empty lists are nil.
func normal(c api.Code) api.Code {
	var list func(l []api.Instr) []api.Instr
	list = func(l []api.Instr) []api.Instr {
		var m []api.Instr
		for _, i := range l {
			i.Body, i.Else = list(i.Body), list(i.Else)
			m = append(m, i)
		}
		return m
	}
	var d api.Code
	for _, x := range c.Procedures {
		x.Body, x.Outputs = list(x.Body), append([]int(nil), x.Outputs...)
		d.Procedures = append(d.Procedures, x)
	}
	return d
}

func FuzzParse(f *testing.F) {
	for _, s := range []string{"proc f 1 1 1\n  load 0\n  push 0\n  greater\n  if\n    load 0\n  else\n    push 0\n  end\n  return\nend\n", "proc a 0 1 -1 0\nloop\npush 1\ndo\nend\nend\nproc b 0 2 -1\ncall 0\nstoreat 0 2\nend", ""} {
		f.Add(s)
	}
	f.Fuzz(func(t *testing.T, s string) {
		c, e := compiler.Parse(s)
		if (e == api.OK) != compiler.Valid(c) && len(c.Procedures) > 0 || !wellFormed(c) {
			t.Fatal(c, e)
		}
		if d, f := compiler.Parse(compiler.Format(c)); e == api.OK && (!reflect.DeepEqual(normal(c), normal(d)) || f != api.OK) {
			t.Fatal(d, f)
		}
		for i := range c.Procedures {
			if _, f := compiler.Cost(c, i, 8); f != api.OK {
				t.Fatal(c, f)
			}
		}
	})
}
