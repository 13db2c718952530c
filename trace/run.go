package trace

import (
	"iter"
	"slices"

	"assessor/api"
)

// step is an event, with the slots of the new frame if it is an EventEnter.
type step struct {
	api.Event
	slots []int
}

// run is a run of a program.
type run struct {
	program api.Program
	bounds  api.Bounds
	nodes   []*api.Node // by their numbers
	behind  []int       // for each node the number of the first one behind it and all that it contains
	yield   func(step) bool
}

// ended is the panic of a run that has ended early, or that is not wanted any more.
type ended struct{}

// steps yields the steps of a run.
func steps(p api.Program, procedure int, b api.Bounds, input []int) iter.Seq[step] {
	return func(yield func(step) bool) {
		defer func() {
			if x := recover(); x != nil && x != (ended{}) {
				panic(x)
			}
		}()
		r := &run{program: p, bounds: b, yield: yield}
		r.list(&r.program.Tree)
		f := r.call(procedure, -1, 0, input)
		f.tell(api.Event{Kind: api.EventEnd, Node: -1})
	}
}

// list notes a node and all that it contains.
func (r *run) list(n *api.Node) {
	number := len(r.nodes)
	r.nodes, r.behind = append(r.nodes, n), append(r.behind, 0)
	for i := range n.Kids {
		r.list(&n.Kids[i])
	}
	r.behind[number] = len(r.nodes)
}

// kid returns the number of a kid of a node.
func (r *run) kid(number, index int) int {
	k := number + 1
	for range index {
		k = r.behind[k]
	}
	return k
}

// frame is the frame of a procedure in a run, and the scalars that it returns.
type frame struct {
	*run
	api.Frame
	procedure *api.Procedure
	depth     int
	result    []int
}

// call runs a procedure because of a node, and returns its frame at the end.
func (r *run) call(procedure, node, depth int, arguments []int) *frame {
	f := &frame{run: r, procedure: &r.program.Procedures[procedure], depth: depth}
	f.Frame = api.Frame{Procedure: procedure, Call: node, Slots: make([]int, f.procedure.Slots)}
	copy(f.Slots, arguments)
	f.tell(api.Event{Kind: api.EventEnter, Node: node, Value: procedure})
	returned := f.block(f.kid(f.procedure.Node, 2))
	if !returned && f.procedure.Result.Kind != api.TypeNone {
		f.fail(api.FaultReturn, f.procedure.Node)
	}
	f.tell(api.Event{Kind: api.EventLeave, Node: node, Value: procedure})
	return f
}

// tell yields an event in a frame.
func (f *frame) tell(e api.Event) {
	e.Depth = f.depth
	x := step{Event: e}
	if e.Kind == api.EventEnter {
		x.slots = slices.Clone(f.Slots)
	}
	if !f.yield(x) {
		panic(ended{})
	}
}

// fail ends the run with a fault at a node.
func (f *frame) fail(fault, node int) {
	f.tell(api.Event{Kind: api.EventFault, Node: node, Value: fault})
	panic(ended{})
}

// named returns the first slot of the variable that a node declares or names, and the first one behind it.
func (f *frame) named(number int) (int, int) { return span(f.procedure, f.program.Names[number]) }

// store puts scalars into the slots from one on, because of a node.
func (f *frame) store(node, slot int, l []int) {
	for i, n := range l {
		place := &f.Slots[slot+i]
		if old := *place; old != n {
			*place = n
			f.tell(api.Event{Kind: api.EventSet, Node: node, Slot: slot + i, Old: old, Value: n})
		}
	}
}
