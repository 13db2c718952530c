package interpreter_test

import (
	"math/rand"
	"reflect"
	"slices"
	"strconv"
	"testing"

	"assessor/api"
	"assessor/checker"
	"assessor/interpreter"
	"assessor/names"
	"assessor/samples"
	"assessor/types"
	"assessor/value"
)

// writer makes random programs.
type writer struct{ r *rand.Rand }

func writers(seed int64) *writer { return &writer{rand.New(rand.NewSource(seed))} }

func (w *writer) program() (api.Node, string) { return samples.Program(w.r) }

// scalars returns random ones of some variables.
func (w *writer) scalars(records []api.Record, width int, l []api.Variable) []int {
	return samples.Scalars(w.r, records, width, l...)
}

// numbered is a node with its number.
type numbered struct {
	api.Node
	number int
	kids   []*numbered
}

func count(n api.Node, next *int) *numbered {
	m := &numbered{Node: n, number: *next}
	*next++
	for _, k := range n.Kids {
		m.kids = append(m.kids, count(k, next))
	}
	return m
}

// definition is the chapter's semantics, by the names of variables; what ends a run or a procedure is returned.
type definition struct {
	root *numbered
	b    api.Bounds
}

// end is a fault at a node, or a return with scalars.
type end struct {
	fault, node int
	out         []int
}

type values map[string][]int

func define(p api.Program, b api.Bounds) *definition {
	next := 0
	return &definition{count(p.Tree, &next), b}
}

func (d *definition) declared(kind int, name string) *numbered {
	for _, k := range d.root.kids {
		if k.Kind == kind && k.Text == name {
			return k
		}
	}
	return nil
}

func (d *definition) field(name string) int {
	for _, k := range d.root.kids {
		for i, f := range k.kids {
			if f.Kind == api.NodeField && f.Text == name {
				return i
			}
		}
	}
	return -1
}

// list evaluates expressions one behind the other.
func (d *definition) list(v values, l []*numbered) ([][]int, *end) {
	var all [][]int
	for _, k := range l {
		x, e := d.expression(v, k)
		if e != nil {
			return nil, e
		}
		all = append(all, x)
	}
	return all, nil
}

func (d *definition) expression(v values, n *numbered) ([]int, *end) {
	wrap := func(x int) []int {
		size := 1 << d.b.Width
		return []int{((x+size/2)%size+size)%size - size/2}
	}
	switch n.Kind {
	case api.NodeNumber:
		x, _ := strconv.Atoi(n.Text)
		return wrap(x), nil
	case api.NodeBool:
		return []int{map[string]int{"true": 1}[n.Text]}, nil
	case api.NodeName:
		return v[n.Text], nil
	case api.NodeMember:
		return []int{v[n.kids[0].Text][d.field(n.Text)]}, nil
	case api.NodeLen:
		return wrap(len(v[n.kids[0].Text])), nil
	}
	if n.Kind == api.NodeBinary && (n.Text == "and" || n.Text == "or") {
		left, e := d.expression(v, n.kids[0])
		if e != nil || (left[0] == 1) == (n.Text == "or") {
			return left, e
		}
		return d.expression(v, n.kids[1])
	}
	l, e := d.list(v, n.kids)
	if e != nil {
		return nil, e
	}
	switch n.Kind {
	case api.NodeIndex:
		if i := l[1][0]; i >= 0 && i < len(l[0]) {
			return l[0][i : i+1], nil
		}
		return nil, &end{fault: api.FaultIndex, node: n.number}
	case api.NodeUnary:
		if n.Text == "not" {
			return []int{1 - l[0][0]}, nil
		}
		return wrap(-l[0][0]), nil
	case api.NodeBinary:
		x, fault, _ := value.Binary(d.b.Width, n.Text, l[0][0], l[1][0])
		if fault != api.FaultNone {
			return nil, &end{fault: fault, node: n.number}
		}
		return []int{x}, nil
	}
	if n.Kind == api.NodeList || d.declared(api.NodeRecord, n.Text) != nil {
		return slices.Concat(l...), nil
	}
	return d.call(n.Text, l, nil)
}

// call runs a procedure, and gives the final value of each var parameter away.
func (d *definition) call(name string, l [][]int, final func(int, []int)) ([]int, *end) {
	p := d.declared(api.NodeProcedure, name)
	v := values{}
	for i, k := range p.kids[0].kids {
		v[k.Text] = slices.Clone(l[i])
	}
	e := d.statements(v, p.kids[2].kids)
	switch {
	case e != nil && e.fault != api.FaultNone:
		return nil, e
	case p.kids[1].Kind != api.NodeNone && e == nil:
		return nil, &end{fault: api.FaultReturn, node: p.number}
	case p.kids[1].Kind != api.NodeNone:
		return e.out, nil
	}
	for i, k := range p.kids[0].kids {
		if k.Kind == api.NodeVarParameter {
			final(i, v[k.Text])
		}
	}
	return nil, nil
}

func (d *definition) statements(v values, l []*numbered) *end {
	for _, k := range l {
		if e := d.statement(v, k); e != nil {
			return e
		}
	}
	return nil
}

func (d *definition) statement(v values, n *numbered) *end {
	switch n.Kind {
	case api.NodeNone:
		return nil
	case api.NodeBlock:
		return d.statements(v, n.kids)
	case api.NodeAssign:
		return d.assign(v, n)
	case api.NodeWhile, api.NodeFor:
		return d.loop(v, n)
	case api.NodeReturn:
		if n.kids[0].Kind == api.NodeNone {
			return &end{}
		}
	case api.NodeIf:
		x, e := d.expression(v, n.kids[0])
		if e != nil {
			return e
		}
		return d.statement(v, n.kids[2-x[0]])
	}
	l := n.kids
	if n.Kind == api.NodeVar {
		l = l[1:]
	}
	all, e := d.list(v, l)
	if e != nil {
		return e
	}
	switch n.Kind {
	case api.NodeVar:
		v[n.Text] = slices.Clone(all[0])
	case api.NodeReturn:
		return &end{out: all[0]}
	case api.NodeAssert:
		if all[0][0] != 1 {
			return &end{fault: api.FaultAssert, node: n.number}
		}
	case api.NodeDo:
		_, e = d.call(n.Text, all, func(i int, x []int) { v[n.kids[i].Text] = x })
	}
	return e
}

func (d *definition) assign(v values, n *numbered) *end {
	l := n.kids[1:]
	place, name := n.kids[0], n.kids[0].Text
	if place.Kind == api.NodeIndex {
		l = []*numbered{place.kids[1], n.kids[1]}
	}
	all, e := d.list(v, l)
	if e != nil {
		return e
	}
	if place.Kind == api.NodeName {
		v[name] = slices.Clone(all[0])
		return nil
	}
	name = place.kids[0].Text
	i := all[0][0]
	if place.Kind == api.NodeMember {
		i = d.field(place.Text)
	}
	if i < 0 || i >= len(v[name]) {
		return &end{fault: api.FaultIndex, node: place.number}
	}
	v[name] = slices.Clone(v[name])
	v[name][i] = all[len(all)-1][0]
	return nil
}

func (d *definition) loop(v values, n *numbered) *end {
	block := n.kids[len(n.kids)-1]
	next := func(int) (bool, *end) {
		x, e := d.expression(v, n.kids[0])
		return e == nil && x[0] == 1, e
	}
	if n.Kind == api.NodeFor {
		all, e := d.list(v, n.kids[:2])
		if e != nil {
			return e
		}
		next = func(round int) (bool, *end) {
			i := all[0][0] + round
			if round < d.b.Loops {
				v[n.Text] = []int{i}
			}
			return i <= all[1][0], nil
		}
	}
	for round := 0; ; round++ {
		more, e := next(round)
		switch {
		case e != nil || !more:
			return e
		case round == d.b.Loops:
			return &end{fault: api.FaultLimit, node: n.number}
		}
		if e := d.statement(v, block); e != nil {
			return e
		}
	}
}

// outcome returns that of a procedure, and the node of a fault.
func (d *definition) outcome(p api.Procedure, input []int) (api.Outcome, int) {
	var l [][]int
	for i := range p.Parameters {
		end := p.Slots
		if i+1 < len(p.Variables) {
			end = p.Variables[i+1].Slot
		}
		l = append(l, input[p.Variables[i].Slot:end])
	}
	var final []int
	out, e := d.call(p.Name, l, func(_ int, x []int) { final = append(final, x...) })
	if e != nil {
		return api.Outcome{Fault: e.fault}, e.node
	}
	return api.Outcome{Out: append(out, final...)}, -1
}

func same(a, b api.Outcome) bool { return a.Fault == b.Fault && slices.Equal(a.Out, b.Out) }

// results returns the types of what a procedure returns.
func results(p api.Procedure) []api.Type {
	if p.Result.Kind != api.TypeNone {
		return []api.Type{p.Result}
	}
	var l []api.Type
	for _, v := range p.Variables[:p.Parameters] {
		if v.Var {
			l = append(l, v.Type)
		}
	}
	return l
}

func TestRunsLikeTheDefinition(t *testing.T) {
	w := writers(1)
	found := map[int]int{}
	for range 600 {
		_, s := w.program()
		p, l, _ := checker.Check(s)
		if s == "" || len(l) > 0 {
			continue
		}
		b := api.Bounds{Width: 2 + w.r.Intn(7), Loops: w.r.Intn(9)}
		d := define(p, b)
		for i, x := range p.Procedures {
			if cost, _ := checker.Cost(p, i, b.Loops); cost > api.MaxCost {
				continue
			}
			for range 6 {
				input := w.scalars(p.Records, b.Width, x.Variables[:x.Parameters])
				kept := slices.Clone(input)
				outcome, number, e := interpreter.Run(p, x.Name, b, input)
				want, at := d.outcome(x, input)
				if !same(outcome, want) || number != at || e != api.OK || !slices.Equal(input, kept) {
					t.Fatalf("%s\n%s %v %v: %v at %d instead of %v at %d, %v", s, x.Name, b, input, outcome, number, want, at, e)
				}
				found[outcome.Fault]++
				if again, _, _ := interpreter.Run(p, x.Name, b, input); !same(again, outcome) {
					t.Fatal(s, again, outcome)
				}
				if l := types.Scalars(p.Records, results(x)...); outcome.Fault == api.FaultNone {
					for i, of := range l {
						if !value.Valid(b.Width, of, nil, outcome.Out[i:i+1]) || len(l) != len(outcome.Out) {
							t.Fatal(s, outcome)
						}
					}
				}
				accepted, e := interpreter.Accepts(p, x.Name, b, input)
				if yes := x.Result.Kind == api.TypeBool; accepted != (yes && same(outcome, api.Outcome{Out: []int{1}})) || (e == api.OK) != yes {
					t.Fatal(s, accepted, e)
				}
			}
		}
	}
	for fault := api.FaultNone; fault <= api.FaultLimit; fault++ {
		if found[fault] < 100 {
			t.Error(found)
		}
	}
}

func TestExpressionsLikeTheDefinition(t *testing.T) {
	w := writers(2)
	found := map[int]int{}
	for range 200 {
		_, s := w.program()
		p, l, _ := checker.Check(s)
		if s == "" || len(l) > 0 {
			continue
		}
		b := api.Bounds{Width: 2 + w.r.Intn(7), Loops: w.r.Intn(9)}
		d := define(p, b)
		procedure := -1
		var f api.Frame
		v := values{}
		var walk func(n *numbered)
		walk = func(n *numbered) {
			if n.Kind == api.NodeProcedure {
				procedure++
				x := p.Procedures[procedure]
				f = api.Frame{Procedure: procedure, Slots: w.scalars(p.Records, b.Width, x.Variables)}
			}
			if n.Kind >= api.NodeName {
				// Several variables of a procedure can have one name.
				for number, i := range p.Names {
					if i >= 0 && n.number <= number && number < n.number+size(n) {
						x := p.Procedures[procedure]
						v[x.Variables[i].Name] = f.Slots[x.Variables[i].Slot:][:types.Size(x.Variables[i].Type, p.Records)]
					}
				}
				l, fault, number, e := interpreter.Evaluate(p, n.number, b, f)
				if e == api.ErrTooLarge {
					return
				}
				want, at := d.expression(v, n)
				if at == nil {
					at = &end{node: -1}
				}
				if !slices.Equal(l, want) || fault != at.fault || number != at.node || e != api.OK {
					t.Fatal(s, n.number, l, fault, number, e, want, at)
				}
				found[fault]++
			}
			for _, k := range n.kids {
				walk(k)
			}
		}
		walk(d.root)
	}
	if found[api.FaultNone] < 5000 || found[api.FaultDivide] < 100 || found[api.FaultIndex] < 200 {
		t.Error(found)
	}
}

// size returns the number of nodes of a tree.
func size(n *numbered) int {
	sum := 1
	for _, k := range n.kids {
		sum += size(k)
	}
	return sum
}

// P12.4

func TestMoreRoundsChangeNothing(t *testing.T) {
	w := writers(3)
	limited, free := 0, 0
	for range 400 {
		_, s := w.program()
		p, l, _ := checker.Check(s)
		if s == "" || len(l) > 0 {
			continue
		}
		width := 2 + w.r.Intn(7)
		for _, x := range p.Procedures {
			input := w.scalars(p.Records, width, x.Variables[:x.Parameters])
			last, at, e := interpreter.Run(p, x.Name, api.Bounds{Width: width}, input)
			for loops := 1; loops <= api.MaxLoops && e == api.OK; loops++ {
				var outcome api.Outcome
				var number int
				outcome, number, e = interpreter.Run(p, x.Name, api.Bounds{Width: width, Loops: loops}, input)
				if e != api.OK {
					break
				}
				if last.Fault != api.FaultLimit && (!same(outcome, last) || number != at) {
					t.Fatal(s, x.Name, input, loops, outcome, last)
				}
				if last.Fault == api.FaultLimit {
					limited++
				} else {
					free++
				}
				last, at = outcome, number
			}
		}
	}
	if limited < 200 || free < 2000 {
		t.Error(limited, free)
	}
}

func TestRenamingAndSpaceChangeNoOutcome(t *testing.T) {
	w := writers(4)
	compared := 0
	for range 200 {
		n, s := w.program()
		p, l, _ := checker.Check(s)
		wide := samples.Spread(w.r, s)
		if s == "" || len(l) > 0 || len(wide) > api.MaxSource {
			continue
		}
		r, _, _ := names.Resolve(n)
		d := w.r.Intn(len(r.Declarations))
		m, _ := names.Rename(n, d, "new_name")
		renamed, _, _ := checker.Tree(m)
		spaced := checked(t, wide)
		for i, x := range p.Procedures {
			input := w.scalars(p.Records, bounds.Width, x.Variables[:x.Parameters])
			want, at, e := interpreter.Run(p, x.Name, bounds, input)
			for _, q := range []api.Program{renamed, spaced} {
				outcome, number, f := interpreter.Run(q, q.Procedures[i].Name, bounds, input)
				if !same(outcome, want) || number != at || e != f {
					t.Fatal(s, x.Name, input, outcome, want)
				}
				compared++
			}
		}
	}
	if compared < 500 {
		t.Error(compared)
	}
}

func TestProgramsStay(t *testing.T) {
	w := writers(5)
	for range 50 {
		_, s := w.program()
		p, l, _ := checker.Check(s)
		if s == "" || len(l) > 0 {
			continue
		}
		for i, x := range p.Procedures {
			f := api.Frame{Procedure: i, Slots: w.scalars(p.Records, bounds.Width, x.Variables)}
			interpreter.Run(p, x.Name, bounds, f.Slots[:len(w.scalars(p.Records, bounds.Width, x.Variables[:x.Parameters]))])
			for number := range p.Types {
				kept := slices.Clone(f.Slots)
				interpreter.Evaluate(p, number, bounds, f)
				if !slices.Equal(kept, f.Slots) {
					t.Fatal(s, number)
				}
			}
		}
		if q := checked(t, s); !reflect.DeepEqual(p, q) {
			t.Fatal(s)
		}
	}
}

func FuzzRun(f *testing.F) {
	for _, s := range []string{"proc f(x:int):int{return 6/x;}", "record r{k:int}proc f(var x:r,y:int[2]){for i=0 to len(y){x.k=g(y[1]);x=r(i);}}proc g(z:int):int{return z/2;}", "proc f(var x:int){while x>0{x=x-1;g(x);}}proc g(var y:int){y=y-1;assert y>0;}"} {
		f.Add(s, 4, 3, 1)
	}
	f.Fuzz(func(t *testing.T, s string, width, loops, first int) {
		p, _, _ := checker.Check(s)
		b := api.Bounds{Width: width, Loops: loops}
		for _, x := range p.Procedures {
			var input []int
			for i, of := range types.Scalars(p.Records, typesOf(x.Variables[:x.Parameters])...) {
				n := value.Wrap(width, first+i)
				if of.Kind == api.TypeBool {
					n &= 1
				}
				input = append(input, n)
			}
			outcome, number, e := interpreter.Run(p, x.Name, b, input)
			if e != api.OK {
				if number != -1 || outcome.Fault != 0 || len(outcome.Out) > 0 {
					t.Fatal(outcome, number, e)
				}
				continue
			}
			if want, at := define(p, b).outcome(x, input); !same(outcome, want) || number != at {
				t.Fatal(s, outcome, number, want, at)
			}
		}
	})
}

func typesOf(l []api.Variable) []api.Type {
	var all []api.Type
	for _, v := range l {
		all = append(all, v.Type)
	}
	return all
}
