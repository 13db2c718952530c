package blast

import (
	"slices"

	"assessor/gates"
)

// not returns the word with all bits negated.
func not(x []int) []int {
	var z []int
	for _, l := range x {
		z = append(z, gates.Not(l))
	}
	return z
}

// half returns the sum of two bits, and the carry.
func half(b *gates.Builder, x, y int) (int, int) {
	carry := b.And(x, y)
	return b.And(b.Or(x, y), gates.Not(carry)), carry
}

// total returns the sum of two words and a bit.
func total(b *gates.Builder, x, y []int, carry int) []int {
	var z []int
	for i := range x {
		without, first := half(b, x[i], y[i])
		with, second := half(b, without, carry)
		z = append(z, with)
		// No bit needs the last carry, and so no gate is spent for it.
		if i+1 < len(x) {
			carry = b.Or(first, second)
		}
	}
	return z
}

func sum(b *gates.Builder, x, y []int) []int { return total(b, x, y, 0) }

// In two's complement -y is not y, plus 1.
func difference(b *gates.Builder, x, y []int) []int { return total(b, x, not(y), 1) }

func negative(b *gates.Builder, x []int) []int { return difference(b, make([]int, len(x)), x) }

func product(b *gates.Builder, x, y []int) []int {
	z := make([]int, len(x))
	for i := range y {
		var row []int
		// What would be moved out of the word is left out.
		for _, l := range x[:len(x)-i] {
			row = append(row, b.And(l, y[i]))
		}
		copy(z[i:], sum(b, z[i:], row))
	}
	return z
}

func equal(b *gates.Builder, x, y []int) int {
	all := 1
	for i := range x {
		all = b.And(all, gates.Not(b.Xor(x[i], y[i])))
	}
	return all
}

func less(b *gates.Builder, x, y []int) int {
	is := 0
	for i := range x {
		p, q := x[i], y[i]
		if i+1 == len(x) {
			// The integer with the last bit is negative, and so the lesser one.
			p, q = q, p
		}
		greater := b.And(p, gates.Not(q))
		is = b.Or(b.And(gates.Not(p), q), b.And(gates.Not(greater), is))
	}
	return is
}

func choose(b *gates.Builder, c int, x, y []int) []int {
	var z []int
	for i := range x {
		z = append(z, b.Mux(c, x[i], y[i]))
	}
	return z
}

func quotient(b *gates.Builder, x, y []int) []int {
	size := absolute(b, y)
	q, _ := divide(b, absolute(b, x), size)
	some := gates.Not(empty(b, size)[0])
	for i := range q {
		q[i] = b.And(q[i], some)
	}
	return signed(b, b.Xor(sign(x), sign(y)), q)
}

func remainder(b *gates.Builder, x, y []int) []int {
	_, r := divide(b, absolute(b, x), absolute(b, y))
	return signed(b, sign(x), r)
}

// sign returns the literal that tells whether an integer is negative.
func sign(x []int) int { return x[len(x)-1] }

// signed returns the negative integer if c holds, and otherwise the integer itself.
func signed(b *gates.Builder, c int, x []int) []int { return choose(b, c, negative(b, x), x) }

// absolute returns the number without its sign; so the last bit of the least integer means that it is large, not negative.
func absolute(b *gates.Builder, x []int) []int { return signed(b, sign(x), x) }

// empty returns for each bit of a word the literal that tells whether no bit is set from there on, and a literal for the end of the word.
func empty(b *gates.Builder, x []int) []int {
	z := make([]int, len(x)+1)
	z[len(x)] = 1
	for i := len(x) - 1; i >= 0; i-- {
		z[i] = b.And(z[i+1], gates.Not(x[i]))
	}
	return z
}

// divide returns the quotient and the remainder of numbers without signs. If the divisor is 0, all bits of the quotient are set, and the remainder is the dividend.
func divide(b *gates.Builder, x, y []int) ([]int, []int) {
	none := empty(b, y)
	q := make([]int, len(x))
	var r []int
	for i := len(x) - 1; i >= 0; i-- {
		// The remainder has no more bits than the front of the dividend that was divided.
		r = append([]int{x[i]}, r...)
		n := len(r)
		rest := difference(b, slices.Concat(r, []int{0}), slices.Concat(y[:n], []int{0}))
		q[i] = b.And(gates.Not(rest[n]), none[n])
		r = choose(b, q[i], rest[:n], r)
	}
	return q, r
}
