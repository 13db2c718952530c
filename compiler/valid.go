package compiler

import (
	"slices"

	"assessor/api"
	"assessor/lexer"
)

const (
	maxInstructions = 1 << 15 // of all procedures
	maxLevels       = 256     // of Body and Else
)

// shape tells what an instruction looks like, and how many scalars it takes from the stack and puts there.
type shape struct {
	word          string
	operands      int // 1: A; 2: A and B
	popped, added int
	nests         bool // it has Body and Else
}

// Those that contain others, calls and returns change the stack by more than stands here.
var shapes = [...]shape{
	api.InstrPush:    {"push", 1, 0, 1, false},
	api.InstrLoad:    {"load", 1, 0, 1, false},
	api.InstrStore:   {"store", 1, 1, 0, false},
	api.InstrLoadAt:  {"loadat", 2, 1, 1, false},
	api.InstrStoreAt: {"storeat", 2, 2, 0, false},
	api.InstrAdd:     {"add", 0, 2, 1, false},
	api.InstrSub:     {"sub", 0, 2, 1, false},
	api.InstrMul:     {"mul", 0, 2, 1, false},
	api.InstrDiv:     {"div", 0, 2, 1, false},
	api.InstrMod:     {"mod", 0, 2, 1, false},
	api.InstrEqual:   {"equal", 0, 2, 1, false},
	api.InstrUnequal: {"unequal", 0, 2, 1, false},
	api.InstrLess:    {"less", 0, 2, 1, false},
	api.InstrAtMost:  {"atmost", 0, 2, 1, false},
	api.InstrGreater: {"greater", 0, 2, 1, false},
	api.InstrAtLeast: {"atleast", 0, 2, 1, false},
	api.InstrNegate:  {"negate", 0, 1, 1, false},
	api.InstrNot:     {"not", 0, 1, 1, false},
	api.InstrIf:      {"if", 0, 1, 0, true},
	api.InstrLoop:    {"loop", 0, 0, 0, true},
	api.InstrCall:    {"call", 1, 0, 0, false},
	api.InstrReturn:  {"return", 0, 0, 0, false},
	api.InstrAssert:  {"assert", 0, 1, 0, false},
}

// malformed is the panic of a check or of a reader that finds something wrong.
type malformed struct{}

func demand(holds bool) {
	if !holds {
		panic(malformed{})
	}
}

// succeeds reports whether a function that makes demands finds that they hold.
func succeeds(f func()) (ok bool) {
	defer func() { ok = recover() == nil }()
	f()
	return ok
}

// Valid reports whether code is well-formed.
func Valid(c api.Code) bool {
	return succeeds(func() {
		demand(len(c.Procedures) <= api.MaxProcedures)
		instructions := 0
		for i, x := range c.Procedures {
			_, known := Find(api.Code{Procedures: c.Procedures[:i]}, x.Name)
			demand(lexer.Name(x.Name) && !known)
			v := validator{before: c.Procedures[:i], procedure: x, instructions: instructions}
			v.header()
			demand(v.list(x.Body, 1, true) == 0)
			instructions = v.instructions
		}
	})
}

// validator checks a procedure of code, with the number of the instructions that have been found.
type validator struct {
	before       []api.CodeProcedure
	procedure    api.CodeProcedure
	instructions int
}

// header demands that all of the procedure but its Body is right.
func (v *validator) header() {
	x := v.procedure
	demand(0 <= x.Parameters && x.Parameters <= x.Slots && x.Slots <= api.MaxNodes)
	demand(-1 <= x.Result && x.Result <= api.MaxSlots)
	demand(len(x.Outputs) <= api.MaxSlots)
	demand(len(x.Outputs) == 0 || x.Result == -1)
	demand(!slices.ContainsFunc(x.Outputs, func(slot int) bool { return !v.slots(slot, 1) }))
}

// slots reports whether a procedure has some slots from one on.
func (v *validator) slots(from, count int) bool {
	return 0 <= from && 1 <= count && from < v.procedure.Slots && count <= v.procedure.Slots-from
}

// list demands that a list of instructions is right, and returns its effect.
func (v *validator) list(l []api.Instr, level int, outermost bool) int {
	demand(len(l) == 0 || level <= maxLevels)
	height := 0
	for _, i := range l {
		v.instructions++
		demand(v.instructions <= maxInstructions)
		v.form(i)
		height = v.height(i, height, level, outermost)
		demand(height <= api.MaxNodes)
	}
	return height
}

// form demands that an instruction has all that belongs to it, and nothing else.
func (v *validator) form(i api.Instr) {
	demand(0 <= i.Op && i.Op < len(shapes))
	s := shapes[i.Op]
	demand(s.operands >= 1 || i.A == 0)
	demand(s.operands == 2 || i.B == 0)
	demand(s.nests || len(i.Body)+len(i.Else) == 0)
	switch i.Op {
	case api.InstrPush:
		demand(0 <= i.A && i.A <= api.MaxNumber)
	case api.InstrLoad, api.InstrStore:
		demand(v.slots(i.A, 1))
	case api.InstrLoadAt, api.InstrStoreAt:
		demand(v.slots(i.A, i.B))
	case api.InstrCall:
		demand(0 <= i.A && i.A < len(v.before))
	}
}

// height returns how many scalars there are behind an instruction, and demands that there are as many in front of it as it needs.
func (v *validator) height(i api.Instr, height, level int, outermost bool) int {
	s := shapes[i.Op]
	demand(height >= s.popped)
	height += s.added - s.popped
	switch i.Op {
	case api.InstrIf:
		there := outermost && height == 0
		effect := v.list(i.Body, level+1, there)
		demand(v.list(i.Else, level+1, there) == effect)
		height += effect
	case api.InstrLoop:
		demand(outermost && height == 0)
		demand(v.list(i.Body, level+1, true) == 0)
		demand(v.list(i.Else, level+1, false) == 1)
	case api.InstrCall:
		called := v.before[i.A]
		demand(height >= called.Parameters)
		height += returned(called) - called.Parameters
	case api.InstrReturn:
		demand(outermost && height == max(v.procedure.Result, 0))
		height = 0
	}
	return height
}

// returned returns how many scalars a procedure returns.
func returned(x api.CodeProcedure) int {
	if x.Result == -1 {
		return len(x.Outputs)
	}
	return x.Result
}
