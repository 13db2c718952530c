package trace

import (
	"slices"

	"assessor/api"
	"assessor/checker"
)

// block executes the statements of a block, and reports whether one of them ends the procedure.
func (f *frame) block(number int) bool {
	k := number + 1
	for range f.nodes[number].Kids {
		if f.execute(k) {
			return true
		}
		k = f.behind[k]
	}
	return false
}

// execute executes a statement, and reports whether it ends the procedure.
func (f *frame) execute(number int) bool {
	f.tell(api.Event{Kind: api.EventStatement, Node: number})
	switch f.nodes[number].Kind {
	case api.NodeVar:
		slot, _ := f.named(number)
		f.store(number, slot, f.evaluate(f.kid(number, 1)))
	case api.NodeAssign:
		f.assign(number)
	case api.NodeIf:
		return f.choose(number)
	case api.NodeWhile:
		return f.repeat(number)
	case api.NodeFor:
		return f.count(number)
	case api.NodeReturn:
		if expression := f.kid(number, 0); f.nodes[expression].Kind != api.NodeNone {
			f.result = f.evaluate(expression)
		}
		return true
	case api.NodeAssert:
		if f.test(f.kid(number, 0)) == 0 {
			f.fail(api.FaultAssert, number)
		}
	case api.NodeDo:
		f.do(number)
	}
	return false
}

func (f *frame) assign(number int) {
	place, expression := f.kid(number, 0), f.kid(number, 1)
	switch f.nodes[place].Kind {
	case api.NodeIndex:
		slot, end := f.named(f.kid(place, 0))
		index := f.scalar(f.kid(place, 1))
		l := f.evaluate(expression)
		if index < 0 || index >= end-slot {
			f.fail(api.FaultIndex, place)
		}
		f.store(number, slot+index, l)
	case api.NodeMember:
		f.store(number, f.member(place), f.evaluate(expression))
	default:
		slot, _ := f.named(place)
		f.store(number, slot, f.evaluate(expression))
	}
}

// member returns the slot of the field that a NodeMember means.
func (f *frame) member(number int) int {
	slot, _ := f.named(f.kid(number, 0))
	for _, r := range f.program.Records {
		i := slices.IndexFunc(r.Fields, func(x api.Field) bool { return x.Name == f.nodes[number].Text })
		if i >= 0 {
			return slot + i
		}
	}
	return slot
}

func (f *frame) choose(number int) bool {
	if f.test(f.kid(number, 0)) == 1 {
		return f.block(f.kid(number, 1))
	}
	other := f.kid(number, 2)
	switch f.nodes[other].Kind {
	case api.NodeBlock:
		return f.block(other)
	case api.NodeIf:
		return f.execute(other)
	}
	return false
}

func (f *frame) repeat(number int) bool {
	for rounds := 0; f.test(f.kid(number, 0)) == 1; rounds++ {
		f.limit(number, rounds)
		if f.block(f.kid(number, 1)) {
			return true
		}
	}
	return false
}

func (f *frame) count(number int) bool {
	slot, _ := f.named(number)
	first := f.scalar(f.kid(number, 0))
	last := f.scalar(f.kid(number, 1))
	for n := first; n <= last; n++ {
		f.tell(api.Event{Kind: api.EventTest, Node: number, Value: 1})
		f.limit(number, n-first)
		f.store(number, slot, []int{n})
		if f.block(f.kid(number, 2)) {
			return true
		}
	}
	f.tell(api.Event{Kind: api.EventTest, Node: number})
	return false
}

// limit ends the run if a loop needs a further round, but must not have one.
func (f *frame) limit(number, rounds int) {
	if rounds >= f.bounds.Loops {
		f.fail(api.FaultLimit, number)
	}
}

func (f *frame) do(number int) {
	i, _ := checker.Find(f.program, f.nodes[number].Text)
	called := f.call(i, number, f.depth+1, f.kids(number))
	for k, v := range called.procedure.Variables[:called.procedure.Parameters] {
		if v.Var {
			slot, _ := f.named(f.kid(number, k))
			from, to := span(called.procedure, k)
			f.store(number, slot, called.Slots[from:to])
		}
	}
}
