package bitvec

import "assessor/api"

func isWidth(width int) bool { return api.MinWidth <= width && width <= api.MaxWidth }

// Wrap returns the integer of a width that is equal to a number modulo 2^width.
func Wrap(width, n int) int {
	if !isWidth(width) {
		return 0
	}
	// The bits above those of the width are shifted out, and the sign comes back in their place.
	return int(int64(n) << (64 - width) >> (64 - width))
}

// Divide returns the quotient and the remainder of two integers of a width.
func Divide(width, a, b int) (int, int) {
	a, b = Wrap(width, a), Wrap(width, b)
	if b == 0 {
		return 0, a
	}
	return Wrap(width, a/b), a % b
}
