package machine

import "assessor/api"

// step is an instruction with its number in its procedure, and what executes it.
type step struct {
	api.Instr
	number      int
	execute     instruction
	body, other []step
}

// procedure is one of the code, whose instructions are steps.
type procedure struct {
	api.CodeProcedure
	steps []step
	size  int // how many steps there are, with those in others
}

// frame is the slots and the stack of a procedure.
type frame struct {
	procedure    int
	slots, stack []int
}

// machine runs procedures of code.
type machine struct {
	bounds     api.Bounds
	procedures []procedure
	frames     []frame // One for each procedure is enough, since none can be called while it runs.
	count      int     // of the instructions that were begun
	stopped    stop
}

// stop is a fault that ends a run, and its place.
type stop struct{ fault, procedure, number int }

// begin returns a machine that has done nothing.
func begin(c api.Code, b api.Bounds) *machine {
	m := &machine{bounds: b}
	instructions := m.instructions()
	for i, x := range c.Procedures {
		p := procedure{CodeProcedure: x}
		p.steps = steps(instructions, x.Body, &p.size)
		m.procedures = append(m.procedures, p)
		m.frames = append(m.frames, frame{procedure: i, slots: make([]int, x.Slots)})
	}
	return m
}

// steps returns the steps of a list of instructions, of which the first one has the number next.
func steps(instructions map[int]instruction, l []api.Instr, next *int) []step {
	made := make([]step, 0, len(l))
	for _, i := range l {
		s := step{Instr: i, number: *next, execute: instructions[i.Op]}
		*next++
		s.body = steps(instructions, i.Body, next)
		s.other = steps(instructions, i.Else, next)
		made = append(made, s)
	}
	return made
}

// run returns the outputs of a procedure, or how the run stops.
func (m *machine) run(procedure int, input []int) (out []int, end stop) {
	end = stop{api.FaultNone, -1, -1}
	defer func() {
		if recover() == any(m.stopped) {
			end = m.stopped
		}
	}()
	return m.call(procedure, input), end
}

// fail stops the run at an instruction.
func (m *machine) fail(fault int, f *frame, number int) {
	m.stopped = stop{fault, f.procedure, number}
	panic(m.stopped)
}

// call runs a procedure, and returns its outputs, which are in its frame.
func (m *machine) call(procedure int, input []int) []int {
	x, f := &m.procedures[procedure], &m.frames[procedure]
	clear(f.slots[copy(f.slots, input):])
	f.stack = f.stack[:0]
	ended := m.list(f, x.steps)
	if x.Result >= 0 && !ended {
		m.fail(api.FaultReturn, f, x.size)
	}
	for _, slot := range x.Outputs {
		f.push(f.slots[slot])
	}
	return f.stack
}

// list executes steps, and reports whether they end the procedure.
func (m *machine) list(f *frame, l []step) bool {
	for i := range l {
		m.count++
		if l[i].execute(f, &l[i]) {
			return true
		}
	}
	return false
}

func (f *frame) push(n int) { f.stack = append(f.stack, n) }

func (f *frame) pop() int { return f.take(1)[0] }

// take returns scalars that were pushed last, in the order in which they were pushed. They stand where the next ones are pushed.
func (f *frame) take(count int) []int {
	rest := len(f.stack) - count
	taken := f.stack[rest:]
	f.stack = f.stack[:rest]
	return taken
}

// put pushes scalars in their order.
func (f *frame) put(l []int) { f.stack = append(f.stack, l...) }
