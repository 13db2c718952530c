package certificate

import (
	"assessor/api"
	"assessor/gates"
)

// word is the literals of the bits of an int, the least significant one first. Those beyond the width are 0.
type word [api.MaxWidth]int

// circuit is built by one builder. The order in which its methods are called decides on the formula, so that all of this follows the chapter to the letter.
type circuit struct {
	builder *gates.Builder
	width   int
}

// tooLarge is the panic of a circuit that would have too many nodes.
type tooLarge struct{}

// made returns a literal, unless the circuit is too large.
func (c *circuit) made(x int) int {
	if c.builder.Err() != api.OK {
		panic(tooLarge{})
	}
	return x
}

func (c *circuit) and(x, y int) int    { return c.made(c.builder.And(x, y)) }
func (c *circuit) or(x, y int) int     { return c.made(c.builder.Or(x, y)) }
func (c *circuit) xor(x, y int) int    { return c.made(c.builder.Xor(x, y)) }
func (c *circuit) mux(s, x, y int) int { return c.made(c.builder.Mux(s, x, y)) }

// constant returns the word of a number modulo the width.
func (c *circuit) constant(n int) word {
	var w word
	for i := range c.width {
		w[i] = n >> i & 1
	}
	return w
}

// truth returns the word of a literal.
func truth(x int) word { return word{x} }

// not returns the word with all bits negated.
func (c *circuit) not(x word) word {
	for i := range c.width {
		x[i] = gates.Not(x[i])
	}
	return x
}

func (c *circuit) sum(x, y word, carry int) word {
	var s word
	for i := range c.width {
		h := c.xor(x[i], y[i])
		s[i] = c.xor(h, carry)
		if i < c.width-1 {
			carry = c.or(c.and(x[i], y[i]), c.and(h, carry))
		}
	}
	return s
}

func (c *circuit) add(x, y word) word { return c.sum(x, y, 0) }

func (c *circuit) sub(x, y word) word { return c.sum(x, c.not(y), 1) }

func (c *circuit) neg(x word) word { return c.sum(word{}, c.not(x), 1) }

func (c *circuit) mul(x, y word) word {
	var result word
	for i := range c.width {
		var row word
		for k := range c.width - i {
			row[k+i] = c.and(x[k], y[i])
		}
		result = c.add(result, row)
	}
	return result
}

// choose returns x if a literal is true, otherwise y.
func (c *circuit) choose(s int, x, y word) word {
	var w word
	for i := range c.width {
		w[i] = c.mux(s, x[i], y[i])
	}
	return w
}

// some returns whether a word is not 0.
func (c *circuit) some(x word) int {
	is := 0
	for i := range c.width {
		is = c.or(is, x[i])
	}
	return is
}

func (c *circuit) equal(x, y word) int {
	is := 1
	for i := range c.width {
		is = c.and(is, gates.Not(c.xor(x[i], y[i])))
	}
	return is
}

func (c *circuit) less(x, y word) int {
	is, last := 0, c.width-1
	for i := range last {
		d := c.xor(x[i], y[i])
		is = c.mux(d, y[i], is)
	}
	d := c.xor(x[last], y[last])
	return c.mux(d, x[last], is)
}

// divide returns the quotient and the remainder.
func (c *circuit) divide(x, y word) (word, word) {
	last := c.width - 1
	s, t := x[last], y[last]
	a := c.choose(s, c.neg(x), x)
	b := c.choose(t, c.neg(y), y)
	var q, r word
	for i := last; i >= 0; i-- {
		copy(r[1:c.width], r[:last])
		r[0] = a[i]
		var d word
		d, q[i] = c.subtract(r, b)
		r = c.choose(q[i], d, r)
	}
	q = c.choose(c.xor(s, t), c.neg(q), q)
	r = c.choose(s, c.neg(r), r)
	return q, r
}

// subtract returns the difference of two words without signs, and whether the first one is at least as great as the second one.
func (c *circuit) subtract(x, y word) (word, int) {
	var d word
	g := 1
	for k := range c.width {
		n := gates.Not(y[k])
		h := c.xor(x[k], n)
		d[k] = c.xor(h, g)
		g = c.or(c.and(x[k], n), c.and(h, g))
	}
	return d, g
}
