package machine

import (
	"assessor/api"
	"assessor/value"
)

// operation takes some scalars from a stack, and computes the one that it puts there, or a fault.
type operation struct {
	popped  int
	compute func(l []int) (int, int)
}

// operations returns those that need nothing but scalars, which are ints of a width.
func operations(width int) map[int]operation {
	binary := func(operator string) operation {
		return operation{2, func(l []int) (int, int) {
			n, fault, _ := value.Binary(width, operator, l[0], l[1])
			return n, fault
		}}
	}
	return map[int]operation{
		api.InstrAdd:     binary("+"),
		api.InstrSub:     binary("-"),
		api.InstrMul:     binary("*"),
		api.InstrDiv:     binary("/"),
		api.InstrMod:     binary("%"),
		api.InstrEqual:   binary("=="),
		api.InstrUnequal: binary("!="),
		api.InstrLess:    binary("<"),
		api.InstrAtMost:  binary("<="),
		api.InstrGreater: binary(">"),
		api.InstrAtLeast: binary(">="),
		api.InstrNegate: {1, func(l []int) (int, int) {
			n, _ := value.Unary(width, "-", l[0])
			return n, api.FaultNone
		}},
		// Code may apply it to any int, which the operator of layer 11 does not accept.
		api.InstrNot: {1, func(l []int) (int, int) {
			if l[0] == 0 {
				return 1, api.FaultNone
			}
			return 0, api.FaultNone
		}},
	}
}

// instruction executes a step in a frame, and reports whether this ends the procedure.
type instruction func(f *frame, s *step) bool

// instructions returns all of them.
func (m *machine) instructions() map[int]instruction {
	l := map[int]instruction{
		api.InstrPush:    plain(func(f *frame, s *step) { f.push(value.Wrap(m.bounds.Width, s.A)) }),
		api.InstrLoad:    plain(func(f *frame, s *step) { f.push(f.slots[s.A]) }),
		api.InstrStore:   plain(func(f *frame, s *step) { f.slots[s.A] = f.pop() }),
		api.InstrLoadAt:  plain(func(f *frame, s *step) { f.push(*m.element(f, s, f.pop())) }),
		api.InstrStoreAt: plain(m.storeAt),
		api.InstrIf:      m.choose,
		api.InstrLoop:    m.repeat,
		api.InstrCall:    plain(func(f *frame, s *step) { f.put(m.call(s.A, f.take(m.procedures[s.A].Parameters))) }),
		api.InstrReturn:  func(*frame, *step) bool { return true },
		api.InstrAssert: plain(func(f *frame, s *step) {
			if f.pop() == 0 {
				m.fail(api.FaultAssert, f, s.number)
			}
		}),
	}
	for op, o := range operations(m.bounds.Width) {
		l[op] = plain(func(f *frame, s *step) {
			n, fault := o.compute(f.take(o.popped))
			if fault != api.FaultNone {
				m.fail(fault, f, s.number)
			}
			f.push(n)
		})
	}
	return l
}

// plain returns an instruction that never ends the procedure.
func plain(execute func(*frame, *step)) instruction {
	return func(f *frame, s *step) bool {
		execute(f, s)
		return false
	}
}

// element returns the slot that an index means.
func (m *machine) element(f *frame, s *step, index int) *int {
	if index < 0 || index >= s.B {
		m.fail(api.FaultIndex, f, s.number)
	}
	return &f.slots[s.A+index]
}

func (m *machine) storeAt(f *frame, s *step) {
	x := f.pop()
	*m.element(f, s, f.pop()) = x
}

func (m *machine) choose(f *frame, s *step) bool {
	if f.pop() == 0 {
		return m.list(f, s.other)
	}
	return m.list(f, s.body)
}

func (m *machine) repeat(f *frame, s *step) bool {
	for rounds := 0; ; rounds++ {
		// What stands in front of a round contains no return.
		m.list(f, s.other)
		if f.pop() == 0 {
			return false
		}
		if rounds == m.bounds.Loops {
			m.fail(api.FaultLimit, f, s.number)
		}
		if m.list(f, s.body) {
			return true
		}
	}
}
