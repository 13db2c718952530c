package exercise

import (
	"slices"

	"assessor/api"
	"assessor/checker"
	"assessor/interpreter"
	"assessor/lexer"
	"assessor/value"
)

// Submission is a program that can be run for an exercise.
type Submission struct {
	task    *Task
	program api.Program
}

// Submit returns a submission, or why the program cannot be run for the exercise.
func (t *Task) Submit(source string) (*Submission, []api.Diagnostic, api.Errno) {
	p, wrong, e := checker.Check(source)
	switch {
	case e != api.OK:
		return nil, nil, e
	case len(wrong) > 0:
		return nil, wrong, api.ErrSyntax
	}
	i, ok := checker.Find(p, t.exercise.Entry)
	switch {
	case !ok:
		return nil, nil, api.ErrName
	case !t.fits(p, p.Procedures[i]):
		return nil, nil, api.ErrType
	case !cheap(p, t.exercise.Entry, t.exercise.Bounds):
		return nil, nil, api.ErrTooLarge
	}
	return &Submission{t, p}, nil, api.OK
}

// fits reports whether the signature of a procedure of another program fits that of the entry.
func (t *Task) fits(p api.Program, x api.Procedure) bool {
	return same(t.program, parameters(t.entry), p, parameters(x)) &&
		slices.Equal(changed(t.entry), changed(x)) &&
		same(t.program, results(t.entry), p, results(x))
}

// changed reports for each parameter of a procedure whether it is a var parameter.
func changed(x api.Procedure) []bool {
	var l []bool
	for _, v := range x.Variables[:x.Parameters] {
		l = append(l, v.Var)
	}
	return l
}

// Program returns the checked program of the submission.
func (s *Submission) Program() api.Program { return copied(s.program) }

// Large returns the nodes that are numbers which the width cannot hold.
func (s *Submission) Large() []int {
	var l []int
	number := 0
	var walk func(api.Node)
	walk = func(n api.Node) {
		if k, _ := lexer.Number(n.Text); n.Kind == api.NodeNumber && k > value.Greatest(s.task.exercise.Bounds.Width) {
			l = append(l, number)
		}
		number++
		for _, k := range n.Kids {
			walk(k)
		}
	}
	walk(s.program.Tree)
	return l
}

// condition is something that holds for the case of a relevant input if the submission is right.
type condition func(api.Case) bool

// demands returns the conditions of the exercise.
func (t *Task) demands() []condition {
	var l []condition
	if t.exercise.Model {
		l = append(l, func(c api.Case) bool {
			return c.Outcome.Fault == c.Expected.Fault && slices.Equal(c.Outcome.Out, c.Expected.Out)
		})
	}
	if t.exercise.Accepts != "" {
		l = append(l, func(c api.Case) bool {
			return c.Outcome.Fault == api.FaultNone && t.accepts(t.exercise.Accepts, slices.Concat(c.Input, c.Outcome.Out))
		})
	}
	return l
}

// Try returns the case of an input.
func (s *Submission) Try(input []int) (api.Case, api.Errno) {
	if !s.task.contains(input) {
		return api.Case{}, api.ErrArg
	}
	return s.judge(slices.Clone(input)), api.OK
}

// judge returns the case of an input of the domain, which it keeps.
func (s *Submission) judge(input []int) api.Case {
	t := s.task
	c := api.Case{Input: input, Relevant: t.relevant(input)}
	if !c.Relevant {
		return c
	}
	run := func(p api.Program) api.Outcome {
		o, _, _ := interpreter.Run(p, t.exercise.Entry, t.exercise.Bounds, input)
		return o
	}
	c.Outcome = run(s.program)
	if t.exercise.Model {
		c.Expected = run(t.program)
	}
	c.Right = !slices.ContainsFunc(t.conditions, func(holds condition) bool { return !holds(c) })
	return c
}

// Search returns the least number, at least from, of a relevant input on which the submission is not right.
func (s *Submission) Search(from int) (int, bool) {
	for i := max(from, 0); i < s.task.Count(); i++ {
		if c := s.judge(s.task.input(i)); c.Relevant && !c.Right {
			return i, true
		}
	}
	return 0, false
}
