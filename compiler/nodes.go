package compiler

import (
	"slices"

	"assessor/api"
	"assessor/checker"
	"assessor/lexer"
)

// block appends the instructions of the statements of a block.
func (e *emitter) block(n node) {
	for _, k := range n.kids {
		e.statement(k)
	}
}

func (e *emitter) statement(n node) {
	switch n.Kind {
	case api.NodeVar:
		e.expression(n.kids[1])
		e.store(n, e.all(e.variable(n))...)
	case api.NodeAssign:
		e.assign(n, n.kids[0])
	case api.NodeIf:
		e.expression(n.kids[0])
		e.nest(n, api.InstrIf, func() { e.block(n.kids[1]) }, func() { e.other(n.kids[2]) })
	case api.NodeWhile:
		e.nest(n, api.InstrLoop, func() { e.block(n.kids[1]) }, func() { e.expression(n.kids[0]) })
	case api.NodeFor:
		e.count(n)
	case api.NodeReturn:
		e.expression(n.kids[0])
		e.operate(n, api.InstrReturn)
	case api.NodeAssert:
		e.expression(n.kids[0])
		e.operate(n, api.InstrAssert)
	case api.NodeDo:
		e.call(n)
		e.store(n, e.changed(n)...)
	}
}

// assign appends an assignment to a place.
func (e *emitter) assign(n, place node) {
	switch place.Kind {
	case api.NodeIndex:
		array := e.variable(place.kids[0])
		e.expression(place.kids[1])
		e.expression(n.kids[1])
		e.add(place, api.Instr{Op: api.InstrStoreAt, A: array.Slot, B: array.Type.Len})
	case api.NodeMember:
		e.expression(n.kids[1])
		e.store(n, e.field(place))
	default:
		e.expression(n.kids[1])
		e.store(n, e.all(e.variable(place))...)
	}
}

// other appends what stands in the place of the second block of an if.
func (e *emitter) other(n node) {
	if n.Kind == api.NodeIf {
		e.statement(n)
		return
	}
	e.block(n)
}

// count appends a for, which keeps its last int, and whether there is a further one, in slots of its own.
func (e *emitter) count(n node) {
	slot, last, more := e.variable(n).Slot, e.slots, e.slots+1
	e.slots += 2
	compare := func(op int) {
		e.load(n, slot, last)
		e.operate(n, op)
		e.store(n, more)
	}
	e.expression(n.kids[0])
	e.store(n, slot)
	e.expression(n.kids[1])
	e.store(n, last)
	compare(api.InstrAtMost)
	round := func() {
		e.block(n.kids[2])
		compare(api.InstrLess)
		e.load(n, slot)
		e.push(n, 1)
		e.operate(n, api.InstrAdd)
		e.store(n, slot)
	}
	e.nest(n, api.InstrLoop, round, func() { e.load(n, more) })
}

// call appends the arguments of a call and, unless it is that of a record, the call.
func (e *emitter) call(n node) {
	e.expressions(n.kids)
	if i, ok := checker.Find(e.Program, n.Text); ok {
		e.add(n, api.Instr{Op: api.InstrCall, A: slices.Index(e.order, i)})
	}
}

// changed returns the slots of the variables that are arguments for var parameters.
func (e *emitter) changed(n node) []int {
	var slots []int
	i, _ := checker.Find(e.Program, n.Text)
	for k, argument := range n.kids {
		if e.Procedures[i].Variables[k].Var {
			slots = append(slots, e.all(e.variable(argument))...)
		}
	}
	return slots
}

func (e *emitter) expressions(l []node) {
	for _, n := range l {
		e.expression(n)
	}
}

// expression appends what pushes the scalars of an expression; nothing for NodeNone.
func (e *emitter) expression(n node) {
	switch n.Kind {
	case api.NodeName:
		e.load(n, e.all(e.variable(n))...)
	case api.NodeIndex:
		array := e.variable(n.kids[0])
		e.expression(n.kids[1])
		e.add(n, api.Instr{Op: api.InstrLoadAt, A: array.Slot, B: array.Type.Len})
	case api.NodeMember:
		e.load(n, e.field(n))
	case api.NodeLen:
		e.push(n, e.variable(n.kids[0]).Type.Len)
	case api.NodeNumber:
		a, _ := lexer.Number(n.Text)
		e.push(n, a)
	case api.NodeBool:
		a := 0
		if n.Text == "true" {
			a = 1
		}
		e.push(n, a)
	case api.NodeList:
		e.expressions(n.kids)
	case api.NodeCall:
		e.call(n)
	case api.NodeUnary:
		e.expression(n.kids[0])
		e.operate(n, unary(n.Text))
	case api.NodeBinary:
		e.binary(n)
	}
}

func (e *emitter) binary(n node) {
	right := func() { e.expression(n.kids[1]) }
	e.expression(n.kids[0])
	switch n.Text {
	case "and":
		e.nest(n, api.InstrIf, right, func() { e.push(n, 0) })
	case "or":
		e.nest(n, api.InstrIf, func() { e.push(n, 1) }, right)
	default:
		right()
		e.operate(n, binary(n.Text))
	}
}

func unary(operator string) int {
	if operator == "not" {
		return api.InstrNot
	}
	return api.InstrNegate
}

func binary(operator string) int {
	return map[string]int{
		"+": api.InstrAdd, "-": api.InstrSub, "*": api.InstrMul, "/": api.InstrDiv, "%": api.InstrMod,
		"==": api.InstrEqual, "!=": api.InstrUnequal,
		"<": api.InstrLess, "<=": api.InstrAtMost, ">": api.InstrGreater, ">=": api.InstrAtLeast,
	}[operator]
}
