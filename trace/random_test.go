package trace_test

import (
	"math/rand"
	"reflect"
	"slices"
	"strconv"
	"testing"

	"assessor/api"
	"assessor/checker"
	"assessor/interpreter"
	"assessor/samples"
	"assessor/trace"
	"assessor/types"
	"assessor/value"
)

// numbered is a node with its number.
type numbered struct {
	api.Node
	number int
	kids   []*numbered
}

func count(n api.Node, next *int) *numbered {
	m := &numbered{Node: n, number: *next}
	*next++
	for _, k := range n.Kids {
		m.kids = append(m.kids, count(k, next))
	}
	return m
}

// definition is the chapter's table, with values that are computed on the way.
type definition struct {
	p      api.Program
	b      api.Bounds
	root   *numbered
	events []api.Event
}

// over is the panic of a run that ends with a fault.
type over struct{}

// scope is a frame, with the slots of the variable of each node that names one.
type scope struct {
	*definition
	slots []int
	depth int
}

func (s *scope) event(kind, node, value int) {
	s.events = append(s.events, api.Event{Kind: kind, Node: node, Depth: s.depth, Value: value})
}

func (s *scope) fault(kind, node int) {
	s.event(api.EventFault, node, kind)
	panic(over{})
}

// of returns the slots of the variable of a node.
func (s *scope) of(n *numbered) []int {
	v, _ := checker.Variable(s.p, n.number)
	return s.slots[v.Slot:][:types.Size(v.Type, s.p.Records)]
}

func (s *scope) set(by int, place []int, l []int) {
	for i, x := range l {
		if place[i] == x {
			continue
		}
		// The place is a part of the slots, whose end is its own.
		slot := cap(s.slots) - cap(place) + i
		s.events = append(s.events, api.Event{Kind: api.EventSet, Node: by, Depth: s.depth, Slot: slot, Old: place[i], Value: x})
		place[i] = x
	}
}

func (s *scope) list(l []*numbered) []int {
	var all []int
	for _, k := range l {
		all = append(all, s.expression(k)...)
	}
	return all
}

func (s *scope) test(n *numbered) bool {
	x := s.expression(n)[0]
	s.event(api.EventTest, n.number, x)
	return x == 1
}

func (s *scope) field(n *numbered) []int {
	_, i, _, _ := types.Member(s.p.Records, n.Text)
	return s.of(n.kids[0])[i:][:1]
}

func (s *scope) expression(n *numbered) []int {
	truth := map[bool][]int{false: {0}, true: {1}}
	switch n.Kind {
	case api.NodeName:
		return slices.Clone(s.of(n))
	case api.NodeNumber:
		x, _ := strconv.Atoi(n.Text)
		return []int{value.Wrap(s.b.Width, x)}
	case api.NodeBool:
		return truth[n.Text == "true"]
	case api.NodeLen:
		return []int{value.Wrap(s.b.Width, len(s.of(n.kids[0])))}
	case api.NodeMember:
		return slices.Clone(s.field(n))
	case api.NodeIndex:
		i, l := s.expression(n.kids[1])[0], s.of(n.kids[0])
		if i < 0 || i >= len(l) {
			s.fault(api.FaultIndex, n.number)
		}
		return []int{l[i]}
	case api.NodeList:
		return s.list(n.kids)
	case api.NodeCall:
		l := s.list(n.kids)
		if _, ok := checker.Find(s.p, n.Text); !ok {
			return l
		}
		result, _ := s.call(n.Text, n.number, s.depth+1, l)
		return result
	case api.NodeUnary:
		if n.Text == "not" {
			return truth[!s.test(n.kids[0])]
		}
		return []int{value.Wrap(s.b.Width, -s.expression(n.kids[0])[0])}
	}
	if n.Text == "and" || n.Text == "or" {
		if s.test(n.kids[0]) == (n.Text == "or") {
			return truth[n.Text == "or"]
		}
		return truth[s.test(n.kids[1])]
	}
	l := s.list(n.kids)
	x, fault, _ := value.Binary(s.b.Width, n.Text, l[0], l[1])
	if fault != api.FaultNone {
		s.fault(fault, n.number)
	}
	return []int{x}
}

// call returns the scalars of the result, and the frame at the end.
func (d *definition) call(name string, node, depth int, l []int) ([]int, *scope) {
	i, _ := checker.Find(d.p, name)
	x := d.p.Procedures[i]
	s := &scope{d, append(slices.Clone(l), make([]int, x.Slots-len(l))...), depth}
	s.slots = s.slots[:len(s.slots):len(s.slots)]
	s.event(api.EventEnter, node, i)
	var body *numbered
	for _, k := range d.root.kids {
		if k.number == x.Node {
			body = k.kids[2]
		}
	}
	result, returned := s.block(body.kids)
	if !returned && x.Result.Kind != api.TypeNone {
		s.fault(api.FaultReturn, x.Node)
	}
	s.event(api.EventLeave, node, i)
	return result, s
}

func (s *scope) block(l []*numbered) ([]int, bool) {
	for _, k := range l {
		if result, returned := s.statement(k); returned {
			return result, true
		}
	}
	return nil, false
}

func (s *scope) statement(n *numbered) ([]int, bool) {
	if n.Kind == api.NodeBlock || n.Kind == api.NodeNone {
		return s.block(n.kids)
	}
	s.event(api.EventStatement, n.number, 0)
	switch n.Kind {
	case api.NodeVar:
		s.set(n.number, s.of(n), s.expression(n.kids[1]))
	case api.NodeAssign:
		s.assign(n, n.kids[0])
	case api.NodeIf:
		if s.test(n.kids[0]) {
			return s.statement(n.kids[1])
		}
		return s.statement(n.kids[2])
	case api.NodeWhile, api.NodeFor:
		return s.loop(n)
	case api.NodeReturn:
		if n.kids[0].Kind != api.NodeNone {
			return s.expression(n.kids[0]), true
		}
		return nil, true
	case api.NodeAssert:
		if !s.test(n.kids[0]) {
			s.fault(api.FaultAssert, n.number)
		}
	case api.NodeDo:
		i, _ := checker.Find(s.p, n.Text)
		_, called := s.call(n.Text, n.number, s.depth+1, s.list(n.kids))
		for k, v := range s.p.Procedures[i].Variables[:len(n.kids)] {
			if v.Var {
				s.set(n.number, s.of(n.kids[k]), called.slots[v.Slot:][:types.Size(v.Type, s.p.Records)])
			}
		}
	}
	return nil, false
}

func (s *scope) assign(n, place *numbered) {
	switch place.Kind {
	case api.NodeName:
		s.set(n.number, s.of(place), s.expression(n.kids[1]))
	case api.NodeMember:
		s.set(n.number, s.field(place), s.expression(n.kids[1]))
	case api.NodeIndex:
		i := s.expression(place.kids[1])[0]
		l := s.expression(n.kids[1])
		array := s.of(place.kids[0])
		if i < 0 || i >= len(array) {
			s.fault(api.FaultIndex, place.number)
		}
		s.set(n.number, array[i:], l)
	}
}

func (s *scope) loop(n *numbered) ([]int, bool) {
	var next, last int
	if n.Kind == api.NodeFor {
		next, last = s.expression(n.kids[0])[0], s.expression(n.kids[1])[0]
	}
	for rounds := 0; ; rounds++ {
		more := false
		if n.Kind == api.NodeWhile {
			more = s.test(n.kids[0])
		} else {
			more = next+rounds <= last
			s.event(api.EventTest, n.number, map[bool]int{true: 1}[more])
		}
		switch {
		case !more:
			return nil, false
		case rounds == s.b.Loops:
			s.fault(api.FaultLimit, n.number)
		case n.Kind == api.NodeFor:
			s.set(n.number, s.of(n), []int{next + rounds})
		}
		if result, returned := s.block(n.kids[len(n.kids)-1].kids); returned {
			return result, true
		}
	}
}

// defined returns the events of a run.
func defined(p api.Program, entry string, b api.Bounds, input []int) (l []api.Event) {
	next := 0
	d := &definition{p: p, b: b, root: count(p.Tree, &next)}
	defer func() {
		if _, ok := recover().(over); ok {
			l = d.events
		}
	}()
	d.call(entry, -1, 0, input)
	return append(d.events, api.Event{Kind: api.EventEnd, Node: -1})
}

// random is a random program with a run.
type random struct {
	s     string
	p     api.Program
	entry api.Procedure
	b     api.Bounds
	input []int
	want  api.Outcome
	at    int // the node of its fault
}

// runs calls a function with random runs.
func runs(seed int64, programs int, f func(random)) {
	r := rand.New(rand.NewSource(seed))
	for range programs {
		_, s := samples.Program(r)
		p, l, _ := checker.Check(s)
		if s == "" || len(l) > 0 {
			continue
		}
		b := api.Bounds{Width: 2 + r.Intn(7), Loops: r.Intn(9)}
		for _, x := range p.Procedures {
			for range 3 {
				input := samples.Scalars(r, p.Records, b.Width, x.Variables[:x.Parameters]...)
				outcome, at, e := interpreter.Run(p, x.Name, b, input)
				if e != api.OK {
					break
				}
				f(random{s, p, x, b, input, outcome, at})
			}
		}
	}
}

func TestEventsLikeTheDefinition(t *testing.T) {
	kinds, faults := map[int]int{}, map[int]int{}
	runs(1, 800, func(x random) {
		kept := slices.Clone(x.input)
		l, e := trace.Events(x.p, x.entry.Name, x.b, x.input)
		want := defined(x.p, x.entry.Name, x.b, x.input)
		if !slices.Equal(l, want) || e != api.OK || !slices.Equal(x.input, kept) {
			t.Fatal(x.s, x.entry.Name, x.b, x.input, writeAll(x.s, x.p, l), writeAll(x.s, x.p, want))
		}
		for _, e := range l {
			kinds[e.Kind]++
		}
		faults[x.want.Fault]++
	})
	for kind := api.EventStatement; kind <= api.EventEnd; kind++ {
		if kinds[kind] < 500 {
			t.Error(kinds)
		}
	}
	for fault := api.FaultNone; fault <= api.FaultLimit; fault++ {
		if faults[fault] < 60 {
			t.Error(faults)
		}
	}
}

// P13.6

func TestTheLastEventHasTheOutcome(t *testing.T) {
	runs(2, 400, func(x random) {
		l, _ := trace.Events(x.p, x.entry.Name, x.b, x.input)
		last := l[len(l)-1]
		if x.want.Fault != api.FaultNone {
			if last.Kind != api.EventFault || last.Value != x.want.Fault || last.Node != x.at {
				t.Fatal(x, last)
			}
		} else if last != (api.Event{Kind: api.EventEnd, Node: -1}) {
			t.Fatal(x, last)
		}
		for _, e := range l[:len(l)-1] {
			if e.Kind == api.EventFault || e.Kind == api.EventEnd {
				t.Fatal(x, e)
			}
		}
		// The final values of var parameters are in the frame in front of its EventLeave.
		if x.want.Fault != api.FaultNone || x.entry.Result.Kind != api.TypeNone {
			return
		}
		s, _ := trace.New(x.p, x.entry.Name, x.b, x.input)
		for s.At() < len(l)-2 {
			s.Next()
		}
		var out []int
		for _, v := range x.entry.Variables[:x.entry.Parameters] {
			if v.Var {
				out = append(out, s.Frames()[0].Slots[v.Slot:][:types.Size(v.Type, x.p.Records)]...)
			}
		}
		if !slices.Equal(out, x.want.Out) {
			t.Fatal(x, out)
		}
	})
}

// behind returns the frames behind an event, from those in front of it.
func behind(p api.Program, l []api.Frame, e api.Event, now []api.Frame) ([]api.Frame, bool) {
	last := len(l) - 1
	switch e.Kind {
	case api.EventEnter:
		// Its arguments stand in the frame alone; the other slots are 0.
		if len(now) != len(l)+1 {
			return nil, false
		}
		x := p.Procedures[e.Value]
		f := now[last+1]
		arguments := 0
		for _, v := range x.Variables[:x.Parameters] {
			arguments += types.Size(v.Type, p.Records)
		}
		ok := f.Procedure == e.Value && f.Call == e.Node && e.Depth == last+1 && len(f.Slots) == x.Slots
		return append(l, f), ok && !slices.ContainsFunc(f.Slots[arguments:], func(n int) bool { return n != 0 })
	case api.EventLeave:
		return l[:last], l[last].Procedure == e.Value && l[last].Call == e.Node && e.Depth == last
	case api.EventSet:
		old := l[last].Slots[e.Slot]
		l[last].Slots[e.Slot] = e.Value
		return l, old == e.Old && e.Old != e.Value && e.Depth == last
	}
	return l, e.Depth == max(last, 0)
}

func TestForwardsAndBackwards(t *testing.T) {
	r := rand.New(rand.NewSource(3))
	runs(4, 200, func(x random) {
		events, _ := trace.Events(x.p, x.entry.Name, x.b, x.input)
		if len(events) > 300 {
			return
		}
		s, _ := trace.New(x.p, x.entry.Name, x.b, x.input)
		all := [][]api.Frame{s.Frames()}
		for i, want := range events {
			e, ok := s.Next()
			now := s.Frames()
			l, right := behind(x.p, copied(all[i]), e, copied(now))
			if !ok || e != want || !right || !reflect.DeepEqual(copied(l), copied(now)) {
				t.Fatal(x.s, i, e, want, now, l)
			}
			all = append(all, now)
		}
		if len(all[0]) > 0 || len(all[1]) != 1 || x.want.Fault == api.FaultNone && len(all[len(events)]) > 0 {
			t.Fatal(all)
		}
		for range 200 {
			at := s.At()
			if r.Intn(2) == 0 {
				e, ok := s.Next()
				if ok != (at < len(events)) || ok && e != events[at] || s.At() != min(at+1, len(events)) {
					t.Fatal(x.s, at, e)
				}
			} else {
				e, ok := s.Back()
				if ok != (at > 0) || ok && e != events[at-1] || s.At() != max(at-1, 0) {
					t.Fatal(x.s, at, e)
				}
			}
			if !reflect.DeepEqual(copied(s.Frames()), copied(all[s.At()])) {
				t.Fatal(x.s, s.At(), s.Frames())
			}
		}
	})
}

// copied returns frames whose empty slices are nil.
func copied(l []api.Frame) []api.Frame {
	var m []api.Frame
	for _, f := range l {
		f.Slots = append([]int(nil), f.Slots...)
		m = append(m, f)
	}
	return m
}

func TestValuesOfTestsAndSets(t *testing.T) {
	tests := 0
	runs(5, 200, func(x random) {
		s, _ := trace.New(x.p, x.entry.Name, x.b, x.input)
		for {
			// Layer 12 finds the value of a condition in the frame behind its test.
			e, ok := s.Next()
			if !ok {
				break
			}
			if e.Kind != api.EventTest {
				continue
			}
			l := s.Frames()
			out, fault, _, f := interpreter.Evaluate(x.p, e.Node, x.b, l[len(l)-1])
			if f == api.ErrNotFound {
				continue
			}
			tests++
			if f != api.OK || fault != api.FaultNone || !slices.Equal(out, []int{e.Value}) {
				t.Fatal(x, e, out, fault, f)
			}
		}
	})
	if tests < 500 {
		t.Error(tests)
	}
}

func TestWatchLikeTheDefinition(t *testing.T) {
	found := 0
	runs(6, 200, func(x random) {
		l, _ := trace.Events(x.p, x.entry.Name, x.b, x.input)
		s, _ := trace.New(x.p, x.entry.Name, x.b, x.input)
		want := map[[2]int][]api.Event{}
		for e, ok := s.Next(); ok; e, ok = s.Next() {
			if e.Kind != api.EventSet {
				continue
			}
			f := s.Frames()[e.Depth]
			for i, v := range x.p.Procedures[f.Procedure].Variables {
				if v.Slot <= e.Slot && e.Slot < v.Slot+types.Size(v.Type, x.p.Records) {
					want[[2]int{f.Procedure, i}] = append(want[[2]int{f.Procedure, i}], e)
				}
			}
		}
		for i, y := range x.p.Procedures {
			for k := range len(y.Variables) + 1 {
				got := trace.Watch(x.p, l, i, k)
				if !slices.Equal(got, want[[2]int{i, k}]) {
					t.Fatal(x.s, i, k, got)
				}
				found += len(got)
			}
		}
	})
	if found < 300 {
		t.Error(found)
	}
}

func TestProgramsStay(t *testing.T) {
	runs(7, 60, func(x random) {
		trace.Events(x.p, x.entry.Name, x.b, x.input)
		s, _ := trace.New(x.p, x.entry.Name, x.b, x.input)
		s.Seek(len(x.p.Types), false)
		trace.Watch(x.p, nil, 0, 0)
		if q, _, _ := checker.Check(x.s); !reflect.DeepEqual(x.p, q) {
			t.Fatal(x.s)
		}
	})
}

func FuzzEvents(f *testing.F) {
	for _, s := range []string{"proc f(x:int):int{return 6/x;}", "record r{k:int}proc f(var x:r,y:int[2]){for i=0 to len(y){x.k=g(y[1]);x=r(i);}}proc g(z:int):int{return z/2;}", "proc f(var x:int){while x>0 and not(x==2){x=x-1;g(x);}}proc g(var y:int){y=y-1;assert y>0;}"} {
		f.Add(s, 4, 3, 1)
	}
	f.Fuzz(func(t *testing.T, s string, width, loops, first int) {
		p, _, _ := checker.Check(s)
		b := api.Bounds{Width: width, Loops: loops}
		for _, x := range p.Procedures {
			var input []int
			for _, v := range x.Variables[:x.Parameters] {
				for i, of := range types.Scalars(p.Records, v.Type) {
					n := value.Wrap(width, first+i)
					if of.Kind == api.TypeBool {
						n &= 1
					}
					input = append(input, n)
				}
			}
			l, e := trace.Events(p, x.Name, b, input)
			if e == api.OK && !slices.Equal(l, defined(p, x.Name, b, input)) || e != api.OK && len(l) > 0 {
				t.Fatal(s, l, e)
			}
		}
	})
}
