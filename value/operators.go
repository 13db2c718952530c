package value

import "assessor/api"

// operation computes with two scalars: a number that is to be wrapped, or a fault.
type operation func(a, b int) (int, int)

// Binary returns the result of an operator on two scalars, and a fault.
func Binary(width int, operator string, a, b int) (int, int, api.Errno) {
	if !possible(width) {
		return 0, 0, api.ErrRange
	}
	// Three small maps stand here instead of a greater one, because they need no memory: programs that run use them all the time.
	operate, ok := arithmetic(operator)
	if !ok {
		operate, ok = relation(operator)
	}
	truths := false
	if !ok {
		operate, ok = connective(operator)
		truths = true
	}
	switch {
	case !ok:
		return 0, 0, api.ErrArg
	case !isScalar(width, truths, a) || !isScalar(width, truths, b):
		return 0, 0, api.ErrRange
	}
	n, fault := operate(a, b)
	return Wrap(width, n), fault, api.OK
}

// arithmetic returns an operator that makes an int of ints.
func arithmetic(operator string) (operation, bool) {
	l := map[string]operation{
		"+": func(a, b int) (int, int) { return a + b, api.FaultNone },
		"-": func(a, b int) (int, int) { return a - b, api.FaultNone },
		"*": func(a, b int) (int, int) { return a * b, api.FaultNone },
		"/": func(a, b int) (int, int) {
			if b == 0 {
				return 0, api.FaultDivide
			}
			return a / b, api.FaultNone
		},
		"%": func(a, b int) (int, int) {
			if b == 0 {
				return 0, api.FaultDivide
			}
			return a % b, api.FaultNone
		},
	}
	operate, ok := l[operator]
	return operate, ok
}

// relation returns an operator that makes a bool of ints.
func relation(operator string) (operation, bool) {
	l := map[string]operation{
		"==": func(a, b int) (int, int) { return truth(a == b), api.FaultNone },
		"!=": func(a, b int) (int, int) { return truth(a != b), api.FaultNone },
		"<":  func(a, b int) (int, int) { return truth(a < b), api.FaultNone },
		"<=": func(a, b int) (int, int) { return truth(a <= b), api.FaultNone },
		">":  func(a, b int) (int, int) { return truth(a > b), api.FaultNone },
		">=": func(a, b int) (int, int) { return truth(a >= b), api.FaultNone },
	}
	operate, ok := l[operator]
	return operate, ok
}

// connective returns an operator that makes a bool of bools.
func connective(operator string) (operation, bool) {
	l := map[string]operation{
		"and": func(a, b int) (int, int) { return min(a, b), api.FaultNone },
		"or":  func(a, b int) (int, int) { return max(a, b), api.FaultNone },
	}
	operate, ok := l[operator]
	return operate, ok
}

func truth(holds bool) int {
	if holds {
		return 1
	}
	return 0
}

// Unary returns the result of an operator on a scalar.
func Unary(width int, operator string, a int) (int, api.Errno) {
	if !possible(width) {
		return 0, api.ErrRange
	}
	l := map[string]func(int) int{
		"-":   func(a int) int { return -a },
		"not": func(a int) int { return 1 - a },
	}
	operate, ok := l[operator]
	switch {
	case !ok:
		return 0, api.ErrArg
	case !isScalar(width, operator == "not", a):
		return 0, api.ErrRange
	}
	return Wrap(width, operate(a)), api.OK
}
