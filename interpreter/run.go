package interpreter

import (
	"assessor/api"
	"assessor/checker"
)

// run is a run of a program.
type run struct {
	program    api.Program
	bounds     api.Bounds
	nodes      []*api.Node // by their numbers
	behind     []int       // for each node the number of the first one behind it and all that it contains
	statements map[int]func(*frame, int) bool
}

// fault is how a run ends early, and at which node.
type fault struct{ kind, node int }

// begin returns a run in which nothing has been done.
func begin(p api.Program, b api.Bounds) *run {
	r := &run{program: p, bounds: b, statements: statements()}
	r.nodes, r.behind = make([]*api.Node, 0, len(p.Types)), make([]int, 0, len(p.Types))
	r.list(&r.program.Tree)
	return r
}

// list notes a node and all that it contains.
func (r *run) list(n *api.Node) {
	number := len(r.nodes)
	r.nodes, r.behind = append(r.nodes, n), append(r.behind, 0)
	for i := range n.Kids {
		r.list(&n.Kids[i])
	}
	r.behind[number] = len(r.nodes)
}

// kid returns the number of a kid of a node.
func (r *run) kid(number, index int) int {
	k := number + 1
	for range index {
		k = r.behind[k]
	}
	return k
}

// attempt returns what a part of a run returns, or nothing and the fault that ends it.
func attempt(part func() []int) (out []int, f fault) {
	defer func() {
		if x, ok := recover().(fault); ok {
			out, f = nil, x
		}
	}()
	return part(), fault{api.FaultNone, -1}
}

// fail ends the run.
func fail(kind, number int) { panic(fault{kind, number}) }

// call runs a procedure, and returns the scalars of its result, or of its var parameters.
func (r *run) call(procedure int, input []int) []int {
	f := r.frame(procedure, input)
	ended := f.block(r.kid(f.procedure.Node, 2))
	if f.procedure.Result.Kind != api.TypeNone {
		if !ended {
			fail(api.FaultReturn, f.procedure.Node)
		}
		return f.result
	}
	var out []int
	for i, v := range f.procedure.Variables[:f.procedure.Parameters] {
		if v.Var {
			out = append(out, f.variable(i)...)
		}
	}
	return out
}

// frame is the slots of a procedure, and the scalars that it returns.
type frame struct {
	*run
	procedure *api.Procedure
	slots     []int
	result    []int
}

// frame returns a new frame, whose first slots are given.
func (r *run) frame(procedure int, first []int) *frame {
	f := &frame{run: r, procedure: &r.program.Procedures[procedure]}
	f.slots = make([]int, f.procedure.Slots)
	copy(f.slots, first)
	return f
}

// variable returns the slots of a variable.
func (f *frame) variable(index int) []int {
	from, to := span(f.procedure, index)
	return f.slots[from:to]
}

// named returns the slots of the variable that a node declares or names.
func (f *frame) named(number int) []int { return f.variable(f.program.Names[number]) }

// statements returns a function for each kind of statement, which executes the one with a number, and reports whether it ends the procedure.
func statements() map[int]func(*frame, int) bool {
	return map[int]func(*frame, int) bool{
		api.NodeVar:    (*frame).define,
		api.NodeAssign: (*frame).assign,
		api.NodeIf:     (*frame).choose,
		api.NodeWhile:  (*frame).repeat,
		api.NodeFor:    (*frame).count,
		api.NodeReturn: (*frame).finish,
		api.NodeAssert: (*frame).assert,
		api.NodeDo:     (*frame).do,
	}
}

func (f *frame) execute(number int) bool {
	return f.statements[f.nodes[number].Kind](f, number)
}

func (f *frame) block(number int) bool {
	k := number + 1
	for range f.nodes[number].Kids {
		if f.execute(k) {
			return true
		}
		k = f.behind[k]
	}
	return false
}

func (f *frame) define(number int) bool {
	copy(f.named(number), f.evaluate(nil, f.kid(number, 1)))
	return false
}

func (f *frame) assign(number int) bool {
	place, expression := f.kid(number, 0), f.kid(number, 1)
	switch f.nodes[place].Kind {
	case api.NodeIndex:
		// That the index is wrong shows only behind the expression.
		index := f.scalar(f.kid(place, 1))
		n := f.scalar(expression)
		*f.element(place, index) = n
	case api.NodeMember:
		*f.field(place) = f.scalar(expression)
	default:
		copy(f.named(place), f.evaluate(nil, expression))
	}
	return false
}

func (f *frame) choose(number int) bool {
	if f.scalar(f.kid(number, 0)) == 1 {
		return f.block(f.kid(number, 1))
	}
	other := f.kid(number, 2)
	switch f.nodes[other].Kind {
	case api.NodeBlock:
		return f.block(other)
	case api.NodeIf:
		return f.execute(other)
	}
	return false
}

func (f *frame) repeat(number int) bool {
	for rounds := 0; f.scalar(f.kid(number, 0)) == 1; rounds++ {
		f.limit(number, rounds)
		if f.block(f.kid(number, 1)) {
			return true
		}
	}
	return false
}

func (f *frame) count(number int) bool {
	first := f.scalar(f.kid(number, 0))
	last := f.scalar(f.kid(number, 1))
	for n := first; n <= last; n++ {
		f.limit(number, n-first)
		f.named(number)[0] = n
		if f.block(f.kid(number, 2)) {
			return true
		}
	}
	return false
}

// limit ends the run if a loop needs a further round, but must not have one.
func (f *frame) limit(number, rounds int) {
	if rounds >= f.bounds.Loops {
		fail(api.FaultLimit, number)
	}
}

func (f *frame) finish(number int) bool {
	if expression := f.kid(number, 0); f.nodes[expression].Kind != api.NodeNone {
		f.result = f.evaluate(nil, expression)
	}
	return true
}

func (f *frame) assert(number int) bool {
	if f.scalar(f.kid(number, 0)) == 0 {
		fail(api.FaultAssert, number)
	}
	return false
}

func (f *frame) do(number int) bool {
	i, _ := checker.Find(f.program, f.nodes[number].Text)
	out := f.call(i, f.kids(nil, number))
	called := f.program.Procedures[i]
	for k, v := range called.Variables[:called.Parameters] {
		if v.Var {
			out = out[copy(f.named(f.kid(number, k)), out):]
		}
	}
	return false
}
