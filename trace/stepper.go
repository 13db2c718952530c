package trace

import (
	"slices"

	"assessor/api"
)

// Stepper is at a place between two events of a run.
type Stepper struct {
	steps  []step
	at     int
	frames []api.Frame // at the place
	left   []api.Frame // the last frames of the procedures that have ended in front of the place, in this order
}

// New returns a stepper in front of the first event of a run.
func New(p api.Program, entry string, b api.Bounds, input []int) (*Stepper, api.Errno) {
	procedure, e := find(p, entry, b, input)
	if e != api.OK {
		return nil, e
	}
	s := &Stepper{}
	for x := range steps(p, procedure, b, input) {
		s.steps = append(s.steps, x)
	}
	return s, api.OK
}

// Next goes behind the next event, and returns it.
func (s *Stepper) Next() (api.Event, bool) {
	if s.at == len(s.steps) {
		return api.Event{}, false
	}
	x := s.steps[s.at]
	s.at++
	last := len(s.frames) - 1
	switch x.Kind {
	case api.EventEnter:
		s.frames = append(s.frames, api.Frame{Procedure: x.Value, Call: x.Node, Slots: slices.Clone(x.slots)})
	case api.EventLeave:
		s.left = append(s.left, s.frames[last])
		s.frames = s.frames[:last]
	case api.EventSet:
		s.frames[last].Slots[x.Slot] = x.Value
	}
	return x.Event, true
}

// Back goes in front of the last event, and returns it.
func (s *Stepper) Back() (api.Event, bool) {
	if s.at == 0 {
		return api.Event{}, false
	}
	s.at--
	x := s.steps[s.at]
	last := len(s.frames) - 1
	switch x.Kind {
	case api.EventEnter:
		s.frames = s.frames[:last]
	case api.EventLeave:
		s.frames = append(s.frames, s.left[len(s.left)-1])
		s.left = s.left[:len(s.left)-1]
	case api.EventSet:
		s.frames[last].Slots[x.Slot] = x.Old
	}
	return x.Event, true
}

// At returns the number of events in front of the place.
func (s *Stepper) At() int { return s.at }

// Frames returns the frames at the place, the entry procedure first.
func (s *Stepper) Frames() []api.Frame {
	var l []api.Frame
	for _, f := range s.frames {
		f.Slots = slices.Clone(f.Slots)
		l = append(l, f)
	}
	return l
}

// Seek goes forwards, or backwards, to the next event of a statement with a node, and behind (in front of) it.
func (s *Stepper) Seek(node int, back bool) bool {
	start := s.at
	move, undo := s.Next, s.Back
	if back {
		move, undo = undo, move
	}
	for e, ok := move(); ok; e, ok = move() {
		if e == (api.Event{Kind: api.EventStatement, Node: node, Depth: e.Depth}) {
			return true
		}
	}
	for s.at != start {
		undo()
	}
	return false
}
