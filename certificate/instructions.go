package certificate

import (
	"assessor/api"
	"assessor/gates"
)

// instruction executes an instruction in a frame.
type instruction func(f *frame, i api.Instr)

// relation is one between the word that was pushed before the last one, and the last one.
type relation func(c *circuit, y, x word) int

// instructions returns all of them by their operations.
func instructions() map[int]instruction {
	return map[int]instruction{
		api.InstrPush:    (*frame).pushConstant,
		api.InstrLoad:    (*frame).load,
		api.InstrStore:   (*frame).store,
		api.InstrLoadAt:  (*frame).loadAt,
		api.InstrStoreAt: (*frame).storeAt,
		api.InstrAdd:     binary((*circuit).add),
		api.InstrSub:     binary((*circuit).sub),
		api.InstrMul:     binary((*circuit).mul),
		api.InstrDiv:     (*frame).div,
		api.InstrMod:     (*frame).mod,
		api.InstrEqual:   compare((*circuit).equal),
		api.InstrUnequal: compare(negation((*circuit).equal)),
		api.InstrLess:    compare((*circuit).less),
		api.InstrAtMost:  compare(negation(greater)),
		api.InstrGreater: compare(greater),
		api.InstrAtLeast: compare(negation((*circuit).less)),
		api.InstrNegate:  (*frame).negate,
		api.InstrNot:     (*frame).invert,
		api.InstrIf:      (*frame).choice,
		api.InstrLoop:    (*frame).loop,
		api.InstrCall:    (*frame).enter,
		api.InstrReturn:  (*frame).finish,
		api.InstrAssert:  (*frame).assert,
	}
}

func binary(operate func(c *circuit, y, x word) word) instruction {
	return func(f *frame, _ api.Instr) {
		l := f.take(2)
		f.push(operate(f.circuit, l[0], l[1]))
	}
}

func compare(holds relation) instruction {
	return binary(func(c *circuit, y, x word) word { return truth(holds(c, y, x)) })
}

func negation(holds relation) relation {
	return func(c *circuit, y, x word) int { return gates.Not(holds(c, y, x)) }
}

func greater(c *circuit, y, x word) int { return c.less(x, y) }

func (f *frame) pushConstant(i api.Instr) { f.push(f.constant(i.A)) }

func (f *frame) load(i api.Instr) { f.push(f.slots[i.A]) }

func (f *frame) store(i api.Instr) { f.slots[i.A] = f.pop() }

// hits returns for each slot of an array whether an index means it; if it means none, there is a fault.
func (f *frame) hits(index word, array []word) []int {
	var l []int
	for i := range array {
		if i < 1<<(f.width-1) {
			l = append(l, f.equal(index, f.constant(i)))
		}
	}
	hit := 0
	for _, x := range l {
		hit = f.or(hit, x)
	}
	f.fault(api.FaultIndex, gates.Not(hit))
	return l
}

func (f *frame) loadAt(i api.Instr) {
	array := f.slots[i.A : i.A+i.B]
	var x word
	for k, hit := range f.hits(f.pop(), array) {
		x = f.choose(hit, array[k], x)
	}
	f.push(x)
}

func (f *frame) storeAt(i api.Instr) {
	array := f.slots[i.A : i.A+i.B]
	x := f.pop()
	for k, hit := range f.hits(f.pop(), array) {
		array[k] = f.choose(hit, x, array[k])
	}
}

func (f *frame) div(api.Instr) {
	quotient, _ := f.quotient()
	f.push(quotient)
}

func (f *frame) mod(api.Instr) {
	_, remainder := f.quotient()
	f.push(remainder)
}

// quotient pops two words, and returns their quotient and remainder; there is a fault if the last one is 0.
func (f *frame) quotient() (word, word) {
	l := f.take(2)
	f.fault(api.FaultDivide, gates.Not(f.some(l[1])))
	return f.divide(l[0], l[1])
}

func (f *frame) negate(api.Instr) { f.push(f.neg(f.pop())) }

func (f *frame) invert(api.Instr) { f.push(truth(gates.Not(f.some(f.pop())))) }

func (f *frame) choice(i api.Instr) {
	f.branch(f.some(f.pop()), func() { f.list(i.Body) }, func() { f.list(i.Else) })
}

func (f *frame) loop(i api.Instr) { f.rounds(i, 0) }

// rounds executes a loop behind some rounds.
func (f *frame) rounds(i api.Instr, done int) {
	f.list(i.Else)
	further := f.some(f.pop())
	if done == f.loops {
		f.fault(api.FaultLimit, further)
		return
	}
	body := func() {
		f.list(i.Body)
		f.rounds(i, done+1)
	}
	f.branch(further, body, func() {})
}

func (f *frame) enter(i api.Instr) {
	called := f.call(i.A, f.take(f.procedures[i.A].Parameters), f.guard)
	f.guard = called.returned
	f.push(called.outputs...)
}

// finish is the return of the procedure.
func (f *frame) finish(api.Instr) {
	values := f.stack
	if f.procedure.Result < 0 {
		values = nil
		for _, slot := range f.procedure.Outputs {
			values = append(values, f.slots[slot])
		}
	}
	for k, x := range values {
		f.outputs[k] = f.choose(f.guard, x, f.outputs[k])
	}
	f.returned = f.or(f.returned, f.guard)
	f.guard, f.stack = 0, nil
}

func (f *frame) assert(api.Instr) {
	f.fault(api.FaultAssert, gates.Not(f.some(f.pop())))
}
