package ranges

import (
	"slices"

	"assessor/api"
)

// operation makes an interval of two others.
type operation func(a, b api.Range) api.Range

// operations returns the functions that make the intervals of operators with two operands from those of these.
func (v *view) operations() map[string]operation {
	return map[string]operation{
		"+":   v.bounded(func(a, b int) int { return a + b }),
		"-":   v.bounded(func(a, b int) int { return a - b }),
		"*":   v.bounded(func(a, b int) int { return a * b }),
		"/":   v.quotient,
		"%":   v.remainder,
		"==":  equal,
		"!=":  func(a, b api.Range) api.Range { return opposite(equal(a, b)) },
		"<":   less,
		"<=":  func(a, b api.Range) api.Range { return opposite(less(b, a)) },
		">":   func(a, b api.Range) api.Range { return less(b, a) },
		">=":  func(a, b api.Range) api.Range { return opposite(less(a, b)) },
		"and": func(a, b api.Range) api.Range { return api.Range{Lo: min(a.Lo, b.Lo), Hi: min(a.Hi, b.Hi)} },
		"or":  func(a, b api.Range) api.Range { return api.Range{Lo: max(a.Lo, b.Lo), Hi: max(a.Hi, b.Hi)} },
	}
}

// bounded returns the function for an operator whose greatest and least results are among those for the bounds of its operands.
func (v *view) bounded(operate func(a, b int) int) operation {
	return func(a, b api.Range) api.Range {
		l := []int{operate(a.Lo, b.Lo), operate(a.Lo, b.Hi), operate(a.Hi, b.Lo), operate(a.Hi, b.Hi)}
		r := api.Range{Lo: slices.Min(l), Hi: slices.Max(l)}
		if contains(v.ints(), r) {
			return r
		}
		return v.ints()
	}
}

func (v *view) quotient(a, b api.Range) api.Range {
	c := b.Lo
	if b.Hi != c || c == 0 || c == -1 {
		return v.ints()
	}
	return both(only(a.Lo/c), only(a.Hi/c))
}

func (v *view) remainder(a, b api.Range) api.Range {
	c := b.Lo
	if b.Hi != c || c == 0 {
		return v.ints()
	}
	most := max(c, -c) - 1
	return api.Range{Lo: min(0, max(a.Lo, -most)), Hi: max(0, min(a.Hi, most))}
}

// negative returns the interval of -a.
func (v *view) negative(a api.Range) api.Range {
	if a.Lo == v.ints().Lo {
		return v.ints()
	}
	return api.Range{Lo: -a.Hi, Hi: -a.Lo}
}

// opposite returns the interval of not a.
func opposite(a api.Range) api.Range { return api.Range{Lo: 1 - a.Hi, Hi: 1 - a.Lo} }

// equal returns the interval of a == b.
func equal(a, b api.Range) api.Range {
	return api.Range{Lo: bit(a == b && a.Lo == a.Hi), Hi: bit(a.Lo <= b.Hi && b.Lo <= a.Hi)}
}

// less returns the interval of a < b.
func less(a, b api.Range) api.Range {
	return api.Range{Lo: bit(a.Hi < b.Lo), Hi: bit(a.Lo < b.Hi)}
}
