package machine_test

import "assessor/api"

// Kinds of lines.
const (
	lineInstr = iota // the instruction is executed
	lineElse         // goes on at target if the scalar that is popped is 0
	lineRound        // the same; otherwise a further round of a loop begins, whose rounds are counted in place
	lineJump         // goes on at target
)

// line is a step of flat code. The chapter's definition of a run is followed there with jumps and a list of frames, unlike in the package.
type line struct {
	kind, number  int
	i             api.Instr
	target, place int
}

// flat is a procedure of flat code.
type flat struct {
	lines        []line
	size, places int
}

// add appends the lines of instructions of which the first one has a number, and returns the number behind them.
func (f *flat) add(l []api.Instr, number int) int {
	for _, i := range l {
		at := number
		f.lines = append(f.lines, line{kind: lineInstr, number: at, i: i})
		switch i.Op {
		case api.InstrIf:
			test := f.more(line{kind: lineElse})
			number = f.add(i.Body, at+1)
			end := f.more(line{kind: lineJump})
			f.lines[test].target = len(f.lines)
			number = f.add(i.Else, number)
			f.lines[end].target = len(f.lines)
		case api.InstrLoop:
			place := f.places
			f.places++
			f.lines[len(f.lines)-1].place = place
			begin := len(f.lines)
			f.add(i.Else, at+1+length(i.Body))
			test := f.more(line{kind: lineRound, number: at, place: place})
			f.add(i.Body, at+1)
			f.more(line{kind: lineJump, target: begin})
			f.lines[test].target = len(f.lines)
			number = at + 1 + length(i.Body) + length(i.Else)
		default:
			number++
		}
	}
	return number
}

func (f *flat) more(x line) int {
	f.lines = append(f.lines, x)
	return len(f.lines) - 1
}

// length returns how many instructions there are in a list.
func length(l []api.Instr) int {
	n := len(l)
	for _, i := range l {
		n += length(i.Body) + length(i.Else)
	}
	return n
}

// level is a procedure that runs.
type level struct {
	procedure, at        int
	slots, stack, rounds []int
}

// reference is a run of flat code.
type reference struct {
	c      api.Code
	b      api.Bounds
	flat   []flat
	levels []*level
	result result
}

func newReference(c api.Code, b api.Bounds) *reference {
	r := &reference{c: c, b: b}
	for _, x := range c.Procedures {
		var f flat
		f.size = f.add(x.Body, 0)
		r.flat = append(r.flat, f)
	}
	return r
}

func (r *reference) enter(procedure int, input []int) {
	x := r.c.Procedures[procedure]
	l := &level{procedure: procedure, slots: make([]int, x.Slots), rounds: make([]int, r.flat[procedure].places)}
	copy(l.slots, input)
	r.levels = append(r.levels, l)
}

// run executes a procedure up to its end or a fault.
func (r *reference) run(procedure int, input []int) result {
	r.result = ends(0)
	r.enter(procedure, input)
	for len(r.levels) > 0 && r.result.fault == api.FaultNone {
		l := r.levels[len(r.levels)-1]
		f := r.flat[l.procedure]
		if l.at < len(f.lines) {
			r.step(l, f.lines[l.at])
		} else if r.c.Procedures[l.procedure].Result >= 0 {
			r.fault(api.FaultReturn, f.size)
		} else {
			r.leave(l)
		}
	}
	return r.result
}

func (r *reference) fault(kind, number int) {
	procedure := r.levels[len(r.levels)-1].procedure
	r.result = faults(kind, procedure, number, r.result.count)
}

// leave ends the procedure that runs.
func (r *reference) leave(l *level) {
	x := r.c.Procedures[l.procedure]
	out := l.stack
	if x.Result < 0 {
		out = nil
		for _, slot := range x.Outputs {
			out = append(out, l.slots[slot])
		}
	}
	r.levels = r.levels[:len(r.levels)-1]
	if len(r.levels) == 0 {
		r.result.out = out
		return
	}
	caller := r.levels[len(r.levels)-1]
	caller.stack = append(caller.stack, out...)
}

func (l *level) pop() int {
	n := l.stack[len(l.stack)-1]
	l.stack = l.stack[:len(l.stack)-1]
	return n
}

func (r *reference) step(l *level, x line) {
	l.at++
	switch x.kind {
	case lineInstr:
		r.result.count++
		r.execute(l, x)
	case lineElse:
		if l.pop() == 0 {
			l.at = x.target
		}
	case lineRound:
		if l.pop() == 0 {
			l.at = x.target
		} else if l.rounds[x.place] == r.b.Loops {
			r.fault(api.FaultLimit, x.number)
		}
		l.rounds[x.place]++
	case lineJump:
		l.at = x.target
	}
}

func (r *reference) execute(l *level, x line) {
	i := x.i
	half := 1 << (r.b.Width - 1)
	switch {
	case i.Op == api.InstrPush:
		l.stack = append(l.stack, (i.A+half)%(2*half)-half)
	case i.Op == api.InstrLoad:
		l.stack = append(l.stack, l.slots[i.A])
	case i.Op == api.InstrStore:
		l.slots[i.A] = l.pop()
	case i.Op == api.InstrLoadAt:
		if k := l.pop(); 0 <= k && k <= i.B-1 {
			l.stack = append(l.stack, l.slots[i.A+k])
		} else {
			r.fault(api.FaultIndex, x.number)
		}
	case i.Op == api.InstrStoreAt:
		n := l.pop()
		if k := l.pop(); 0 <= k && k <= i.B-1 {
			l.slots[i.A+k] = n
		} else {
			r.fault(api.FaultIndex, x.number)
		}
	case i.Op <= api.InstrNot:
		n, y := l.pop(), 0
		if i.Op < api.InstrNegate {
			y = l.pop()
		}
		n, fault := expected(r.b.Width, i.Op, y, n)
		if fault != api.FaultNone {
			r.fault(fault, x.number)
		}
		l.stack = append(l.stack, n)
	case i.Op == api.InstrLoop:
		l.rounds[x.place] = 0
	case i.Op == api.InstrCall:
		from := len(l.stack) - r.c.Procedures[i.A].Parameters
		r.enter(i.A, l.stack[from:])
		l.stack = l.stack[:from]
	case i.Op == api.InstrReturn:
		r.leave(l)
	case i.Op == api.InstrAssert:
		if l.pop() == 0 {
			r.fault(api.FaultAssert, x.number)
		}
	}
}
