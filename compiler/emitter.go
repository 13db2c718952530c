package compiler

import (
	"slices"

	"assessor/api"
	"assessor/checker"
	"assessor/types"
)

// node is a node of the tree with its number.
type node struct {
	api.Node
	number int
	kids   []node
}

// number returns the tree with the numbers of its nodes, of which the first one is next.
func number(n api.Node, next *int) node {
	m := node{Node: n, number: *next}
	*next++
	for _, k := range n.Kids {
		m.kids = append(m.kids, number(k, next))
	}
	return m
}

// part is a list of instructions, and for each of these and of those in them, by their numbers, the number of the node that it belongs to.
type part struct {
	list   []api.Instr
	places []int
}

// emitter appends the instructions of a procedure of a program.
type emitter struct {
	api.Program
	part
	order []int // of the procedures in the code
	slots int   // that are in use
}

// procedure returns the code of a procedure.
func (e *emitter) procedure(root node, x api.Procedure) api.CodeProcedure {
	c := api.CodeProcedure{Name: x.Name, Result: -1}
	e.slots = x.Slots
	if x.Result.Kind != api.TypeNone {
		c.Result = types.Size(x.Result, e.Records)
	}
	for _, v := range x.Variables[:x.Parameters] {
		slots := e.all(v)
		c.Parameters += len(slots)
		if v.Var {
			c.Outputs = append(c.Outputs, slots...)
		}
	}
	i := slices.IndexFunc(root.kids, func(n node) bool { return n.number == x.Node })
	e.block(root.kids[i].kids[2])
	c.Body, c.Slots = e.list, e.slots
	return c
}

// all returns the slots of a variable.
func (e *emitter) all(v api.Variable) []int {
	var l []int
	for i := range types.Size(v.Type, e.Records) {
		l = append(l, v.Slot+i)
	}
	return l
}

// variable returns the variable that a node declares or names.
func (e *emitter) variable(n node) api.Variable {
	v, _ := checker.Variable(e.Program, n.number)
	return v
}

// field returns the slot of the field that a NodeMember means.
func (e *emitter) field(n node) int {
	_, i, _, _ := types.Member(e.Records, n.Text)
	return e.variable(n.kids[0]).Slot + i
}

// add appends an instruction that belongs to a node.
func (e *emitter) add(n node, i api.Instr) {
	e.list = append(e.list, i)
	e.places = append(e.places, n.number)
}

// operate appends an instruction without numbers.
func (e *emitter) operate(n node, op int) { e.add(n, api.Instr{Op: op}) }

func (e *emitter) push(n node, a int) { e.add(n, api.Instr{Op: api.InstrPush, A: a}) }

func (e *emitter) load(n node, slots ...int) {
	for _, slot := range slots {
		e.add(n, api.Instr{Op: api.InstrLoad, A: slot})
	}
}

// store appends what pops the scalars of slots, of which the last one was pushed last.
func (e *emitter) store(n node, slots ...int) {
	for _, slot := range slices.Backward(slots) {
		e.add(n, api.Instr{Op: api.InstrStore, A: slot})
	}
}

// nest appends an instruction that contains others, which functions append.
func (e *emitter) nest(n node, op int, body, other func()) {
	inner, behind := e.apart(body), e.apart(other)
	e.add(n, api.Instr{Op: op, Body: inner.list, Else: behind.list})
	e.places = slices.Concat(e.places, inner.places, behind.places)
}

// apart returns the instructions that a function appends.
func (e *emitter) apart(emit func()) part {
	outer := e.part
	e.part = part{}
	emit()
	inner := e.part
	e.part = outer
	return inner
}
