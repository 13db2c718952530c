package certificate

import (
	"slices"

	"assessor/api"
	"assessor/gates"
)

// run is a run of code on words.
type run struct {
	*circuit
	procedures   []api.CodeProcedure
	loops        int
	instructions map[int]instruction
	faults       [api.FaultLimit + 1]int // the literals of the faults, which begin with FaultDivide
}

// frame is a procedure that runs.
type frame struct {
	*run
	state
	procedure api.CodeProcedure
	returned  int
	outputs   []word
}

// state is what a procedure has at a place, and whether the run is there.
type state struct {
	slots, stack []word
	guard        int
}

// copied returns the same state, with memory of its own.
func (s state) copied() state {
	s.slots, s.stack = slices.Clone(s.slots), slices.Clone(s.stack)
	return s
}

// call runs a procedure with some words, under a guard.
func (r *run) call(procedure int, input []word, guard int) *frame {
	x := r.procedures[procedure]
	f := &frame{run: r, procedure: x, outputs: make([]word, max(x.Result, len(x.Outputs)))}
	f.slots, f.guard = make([]word, x.Slots), guard
	copy(f.slots, input)
	f.list(x.Body)
	if x.Result >= 0 {
		f.fault(api.FaultReturn, 1)
	} else {
		f.finish(api.Instr{})
	}
	return f
}

// list executes instructions; also those behind a return, where the guard is false.
func (f *frame) list(l []api.Instr) {
	for _, i := range l {
		f.instructions[i.Op](f, i)
	}
}

func (f *frame) push(l ...word) { f.stack = append(f.stack, l...) }

func (f *frame) pop() word { return f.take(1)[0] }

// take returns words that were pushed last, in the order in which they were pushed. They stand where the next ones are pushed.
func (f *frame) take(count int) []word {
	rest := len(f.stack) - count
	taken := f.stack[rest:]
	f.stack = f.stack[:rest]
	return taken
}

// fault ends the run under a condition.
func (f *frame) fault(kind, condition int) {
	fails := f.and(f.guard, condition)
	f.faults[kind] = f.or(f.faults[kind], fails)
	f.guard = f.and(f.guard, gates.Not(condition))
}

// branch executes one part under a condition and another one under its negation, both from the state in front of them, and merges the states behind them.
func (f *frame) branch(condition int, yes, no func()) {
	before := f.state.copied()
	f.guard = f.and(before.guard, condition)
	yes()
	first := f.state
	f.state = before
	f.guard = f.and(before.guard, gates.Not(condition))
	no()
	f.merge(condition, first)
}

// merge merges a state with the present one, by the condition under which it is that of the run.
func (f *frame) merge(condition int, first state) {
	for _, l := range [][2][]word{{first.slots, f.slots}, {first.stack, f.stack}} {
		for i, x := range l[0] {
			l[1][i] = f.choose(condition, x, l[1][i])
		}
	}
	f.guard = f.or(first.guard, f.guard)
}
