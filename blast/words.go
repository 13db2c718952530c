package blast

import (
	"assessor/api"
	"assessor/gates"
)

// Neg returns the negative integer.
func Neg(b *gates.Builder, x []int) []int {
	return made(b, func() []int { return negative(b, x) }, x)
}

// Add returns the sum.
func Add(b *gates.Builder, x, y []int) []int {
	return made(b, func() []int { return sum(b, x, y) }, x, y)
}

// Sub returns the difference.
func Sub(b *gates.Builder, x, y []int) []int {
	return made(b, func() []int { return difference(b, x, y) }, x, y)
}

// Mul returns the product.
func Mul(b *gates.Builder, x, y []int) []int {
	return made(b, func() []int { return product(b, x, y) }, x, y)
}

// Divide returns the quotient and the remainder.
func Divide(b *gates.Builder, x, y []int) ([]int, []int) {
	both := made(b, func() [2][]int { return [2][]int{quotient(b, x, y), remainder(b, x, y)} }, x, y)
	return both[0], both[1]
}

// Equal returns the literal that tells whether two words are equal.
func Equal(b *gates.Builder, x, y []int) int {
	return made(b, func() int { return equal(b, x, y) }, x, y)
}

// Less returns the literal that tells whether one integer is less than another one.
func Less(b *gates.Builder, x, y []int) int {
	return made(b, func() int { return less(b, x, y) }, x, y)
}

// Choose returns the word that is x if c holds, and otherwise y.
func Choose(b *gates.Builder, c int, x, y []int) []int {
	return made(b, func() []int { return choose(b, c, x, y) }, x, y)
}

// made returns what a function makes of some words, and zero if they have not one length that is possible, or the builder has an error.
func made[T any](b *gates.Builder, build func() T, words ...[]int) T {
	var none T
	if !alike(words) {
		return none
	}
	// A literal that does not exist yet could become one while gates are added, so that all of them are shown to the builder before.
	for _, word := range words {
		for _, x := range word {
			b.And(x, 1)
		}
	}
	z := build()
	if b.Err() != api.OK {
		return none
	}
	return z
}

// alike reports whether some words have one length that is possible.
func alike(words [][]int) bool {
	n := len(words[0])
	for _, word := range words {
		if len(word) != n {
			return false
		}
	}
	return 0 < n && n <= api.MaxWidth
}
