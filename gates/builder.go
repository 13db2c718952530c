package gates

import (
	"slices"

	"assessor/api"
)

// Builder builds a circuit.
type Builder struct {
	circuit  api.Gates
	literals map[[2]int]int // of the gates
	err      api.Errno
}

// New returns a builder of a circuit with some inputs.
func New(inputs int) (*Builder, api.Errno) {
	if !areInputs(inputs) {
		return nil, api.ErrArg
	}
	return &Builder{circuit: api.Gates{Inputs: inputs}, literals: map[[2]int]int{}}, api.OK
}

// Input returns the literal of an input.
func (b *Builder) Input(i int) int {
	switch {
	case b.err != api.OK:
		return 0
	case i < 0 || i >= b.circuit.Inputs:
		b.err = api.ErrArg
		return 0
	}
	return 2 * (i + 1)
}

// And returns the literal of the conjunction.
func (b *Builder) And(x, y int) int {
	return b.build(func() int { return b.and(x, y) }, x, y)
}

// Or returns the literal of the disjunction.
func (b *Builder) Or(x, y int) int {
	return b.build(func() int { return b.or(x, y) }, x, y)
}

// Xor returns the literal of the exclusive disjunction.
func (b *Builder) Xor(x, y int) int {
	return b.build(func() int { return b.or(b.and(x, Not(y)), b.and(Not(x), y)) }, x, y)
}

// Mux returns the literal that is x if c holds, and otherwise y.
func (b *Builder) Mux(c, x, y int) int {
	return b.build(func() int { return b.or(b.and(c, x), b.and(Not(c), y)) }, c, x, y)
}

// Len returns the number of nodes.
func (b *Builder) Len() int { return count(b.circuit) }

// Err returns the first error.
func (b *Builder) Err() api.Errno { return b.err }

// Circuit returns the circuit that was built.
func (b *Builder) Circuit() api.Gates {
	return api.Gates{Inputs: b.circuit.Inputs, Gates: slices.Clone(b.circuit.Gates)}
}

// build returns the literal that a function makes of some literals, unless there is an error. With an error, the circuit stays as it was before the function.
func (b *Builder) build(literal func() int, of ...int) int {
	switch {
	case b.err != api.OK:
		return 0
	case !areLiterals(b.circuit, of):
		b.err = api.ErrArg
		return 0
	}
	before := len(b.circuit.Gates)
	x := literal()
	if b.err != api.OK {
		// The map may keep these gates, since it is never looked at again.
		b.circuit.Gates = b.circuit.Gates[:before]
		return 0
	}
	return x
}

func (b *Builder) and(x, y int) int {
	switch {
	case x == 0 || y == 0:
		return 0
	case x == 1:
		return y
	case y == 1 || x == y:
		return x
	case x == Not(y):
		return 0
	}
	gate := [2]int{min(x, y), max(x, y)}
	z, ok := b.literals[gate]
	switch {
	case ok:
		return z
	case b.Len() == api.MaxVariables:
		b.err = api.ErrTooLarge
		return 0
	}
	z = 2 * b.Len()
	b.literals[gate] = z
	b.circuit.Gates = append(b.circuit.Gates, gate)
	return z
}

func (b *Builder) or(x, y int) int { return Not(b.and(Not(x), Not(y))) }
