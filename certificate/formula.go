package certificate

import (
	"slices"

	"assessor/api"
	"assessor/cnf"
	"assessor/compiler"
	"assessor/exercise"
	"assessor/gates"
	"assessor/types"
)

// problem is an exercise and a submission, with their code.
type problem struct {
	*circuit
	exercise         api.Exercise
	teacher, student api.Code
	input            []word
}

// pose returns the problem of an exercise and a submission.
func pose(x api.Exercise, source string) (*problem, api.Errno) {
	t, e := exercise.New(x)
	if e != api.OK {
		return nil, e
	}
	s, _, e := t.Submit(source)
	if e != api.OK {
		return nil, e
	}
	p := &problem{exercise: x}
	p.teacher, e = compiler.Compile(t.Program())
	if e != api.OK {
		return nil, e
	}
	p.student, e = compiler.Compile(s.Program())
	if e != api.OK {
		return nil, e
	}
	p.circuit, p.input, e = inputs(x.Bounds.Width, scalars(t))
	return p, e
}

// scalars returns the types of the scalars of an input.
func scalars(t *exercise.Task) []api.Type {
	p, entry := t.Program(), t.Exercise().Entry
	i := slices.IndexFunc(p.Procedures, func(x api.Procedure) bool { return x.Name == entry })
	var l []api.Type
	for _, v := range p.Procedures[i].Variables[:p.Procedures[i].Parameters] {
		l = append(l, v.Type)
	}
	return types.Scalars(p.Records, l...)
}

// bits returns of how many bits a scalar of a type consists.
func bits(t api.Type, width int) int {
	if t.Kind == api.TypeBool {
		return 1
	}
	return width
}

// inputs returns a circuit without gates, and the words of scalars whose bits are its inputs.
func inputs(width int, scalars []api.Type) (*circuit, []word, api.Errno) {
	count := 0
	for _, t := range scalars {
		count += bits(t, width)
	}
	b, e := gates.New(count)
	if e != api.OK {
		return nil, nil, e
	}
	var l []word
	next := 0
	for _, t := range scalars {
		var w word
		for k := range bits(t, width) {
			w[k] = b.Input(next)
			next++
		}
		l = append(l, w)
	}
	return &circuit{b, width}, l, api.OK
}

// formula returns the formula of the problem.
func (p *problem) formula() (f api.Formula, e api.Errno) {
	defer func() {
		if recover() != nil {
			f, e = api.Formula{}, api.ErrTooLarge
		}
	}()
	wrong := p.wrong()
	return cnf.Translate(p.builder.Circuit(), wrong)
}

// wrong returns the literal that is true for the relevant inputs on which the submission is not right.
func (p *problem) wrong() int {
	relevant := p.domain()
	if name := p.exercise.Given; name != "" {
		relevant = p.and(relevant, p.holds(name, p.input, 1))
	}
	submission := p.run(p.student, p.exercise.Entry, p.input, 1)
	right := 1
	if p.exercise.Model {
		right = p.and(right, p.same(submission, p.run(p.teacher, p.exercise.Entry, p.input, 1)))
	}
	if name := p.exercise.Accepts; name != "" {
		input := slices.Concat(p.input, submission.outputs)
		right = p.and(right, p.holds(name, input, submission.returned))
	}
	return p.and(relevant, gates.Not(right))
}

// domain returns the literal that is true for the inputs of the domain.
func (p *problem) domain() int {
	is := 1
	for i, r := range p.exercise.Ranges {
		is = p.and(is, gates.Not(p.less(p.input[i], p.constant(r.Lo))))
		is = p.and(is, gates.Not(p.less(p.constant(r.Hi), p.input[i])))
	}
	return is
}

// run runs a procedure with literals of faults of its own.
func (p *problem) run(c api.Code, name string, input []word, guard int) *frame {
	i, _ := compiler.Find(c, name)
	r := &run{circuit: p.circuit, procedures: c.Procedures, loops: p.exercise.Bounds.Loops, instructions: instructions()}
	return r.call(i, input, guard)
}

// holds runs a procedure of the teacher, and returns the literal that is true where it returns true.
func (p *problem) holds(name string, input []word, guard int) int {
	f := p.run(p.teacher, name, input, guard)
	return p.and(f.returned, p.some(f.outputs[0]))
}

// same returns the literal that is true where two runs have the same outcome.
func (p *problem) same(submission, model *frame) int {
	equal := 1
	for i, x := range submission.outputs {
		equal = p.and(equal, p.equal(x, model.outputs[i]))
	}
	same := p.or(gates.Not(submission.returned), equal)
	for fault := api.FaultDivide; fault <= api.FaultLimit; fault++ {
		same = p.and(same, gates.Not(p.xor(submission.faults[fault], model.faults[fault])))
	}
	return same
}
