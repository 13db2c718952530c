package machine_test

import (
	"math"
	"reflect"
	"slices"
	"strings"
	"testing"

	"assessor/api"
	"assessor/checker"
	"assessor/compiler"
	"assessor/machine"
)

// parsed returns the code with a text in one line.
func parsed(t *testing.T, s string) api.Code {
	t.Helper()
	c, e := compiler.Parse(strings.ReplaceAll(s, "; ", "\n"))
	if e != api.OK {
		t.Fatal(s, e)
	}
	return c
}

// result is what a run gives.
type result struct {
	out                      []int
	fault, procedure, number int
	count                    int
}

// ends is the result of a run without a fault.
func ends(count int, out ...int) result { return result{out, api.FaultNone, -1, -1, count} }

// faults is the result of a run with one.
func faults(fault, procedure, number, count int) result {
	return result{nil, fault, procedure, number, count}
}

func run(t *testing.T, c api.Code, procedure int, b api.Bounds, input ...int) result {
	t.Helper()
	o, at, number, e := machine.Run(c, procedure, b, input)
	count, f := machine.Count(c, procedure, b, input)
	if e != api.OK || f != api.OK {
		t.Fatal(compiler.Format(c), procedure, input, e, f)
	}
	return result{o.Out, o.Fault, at, number, count}
}

func same(a, b result) bool {
	return slices.Equal(a.out, b.out) && a.fault == b.fault && a.procedure == b.procedure && a.number == b.number && a.count == b.count
}

// sample is a text of code, of which the last procedure is run with 4 bits and 3 rounds.
type sample struct {
	s     string
	input []int
	want  result
}

func check(t *testing.T, l []sample) {
	t.Helper()
	for _, x := range l {
		c := parsed(t, x.s)
		if got := run(t, c, len(c.Procedures)-1, api.Bounds{Width: 4, Loops: 3}, x.input...); !same(got, x.want) {
			t.Errorf("%s %v\n%v instead of %v", x.s, x.input, got, x.want)
		}
	}
}

// P15.1

func TestStackAndSlots(t *testing.T) {
	check(t, []sample{
		{"proc f 0 0 -1; end", nil, ends(0)},
		{"proc f 0 0 1; push 7; return; end", nil, ends(2, 7)},
		{"proc f 0 0 1; push 8; return; end", nil, ends(2, -8)},
		{"proc f 0 0 1; push 9; return; end", nil, ends(2, -7)},
		{"proc f 0 0 1; push 16; return; end", nil, ends(2, 0)},
		{"proc f 0 0 1; push 999999999; return; end", nil, ends(2, -1)},
		{"proc f 2 2 3; load 1; push 3; load 0; return; end", []int{1, 2}, ends(4, 2, 3, 1)},
		{"proc f 1 3 -1 2 1 0; end", []int{5}, ends(0, 0, 0, 5)},
		{"proc f 1 1 -1 0 0; end", []int{-8}, ends(0, -8, -8)},
		{"proc f 2 3 -1 2 0 1; load 1; store 2; push 7; store 0; end", []int{1, 2}, ends(4, 2, 7, 2)},
		{"proc f 2 2 -1 0 1; load 0; load 1; store 0; store 1; end", []int{1, 2}, ends(4, 2, 1)},
		{"proc f 3 5 1; load 0; loadat 1 2; return; end", []int{0, 5, 6}, ends(3, 5)},
		{"proc f 3 5 1; load 0; loadat 1 2; return; end", []int{1, 5, 6}, ends(3, 6)},
		{"proc f 3 5 1; load 0; loadat 1 2; return; end", []int{2, 5, 6}, faults(api.FaultIndex, 0, 1, 2)},
		{"proc f 3 5 1; load 0; loadat 1 2; return; end", []int{-1, 5, 6}, faults(api.FaultIndex, 0, 1, 2)},
		{"proc f 3 5 1; load 0; loadat 1 4; return; end", []int{3, 5, 6}, ends(3, 0)},
		{"proc f 3 3 -1 0 1 2; load 0; push 7; storeat 1 2; end", []int{0, 5, 6}, ends(3, 0, 7, 6)},
		{"proc f 3 3 -1 0 1 2; load 0; push 7; storeat 1 2; end", []int{1, 5, 6}, ends(3, 1, 5, 7)},
		{"proc f 3 3 -1 0 1 2; load 0; push 7; storeat 1 2; end", []int{2, 5, 6}, faults(api.FaultIndex, 0, 2, 3)},
		{"proc f 3 3 -1 0 1 2; load 0; push 7; storeat 1 2; end", []int{-8, 5, 6}, faults(api.FaultIndex, 0, 2, 3)},
		{"proc f 3 3 -1 0 1 2; push 1; load 0; storeat 1 2; end", []int{-8, 5, 6}, ends(3, -8, 5, -8)},
	})
}

func TestOperatorsInCode(t *testing.T) {
	for _, c := range []struct {
		words       string
		x, y, value int
	}{
		{"add", 7, 1, -8}, {"sub", 5, 3, 2}, {"sub", -8, 1, 7}, {"mul", 3, 5, -1}, {"div", -7, 2, -3}, {"div", -8, -1, -8}, {"mod", -7, 2, -1}, {"mod", 7, -2, 1},
		{"equal", 3, 3, 1}, {"equal", 3, 4, 0}, {"unequal", 3, 3, 0}, {"unequal", -3, 3, 1}, {"less", -1, 0, 1}, {"less", 0, 0, 0}, {"less", 0, -1, 0}, {"atmost", 0, 0, 1}, {"atmost", 1, 0, 0}, {"greater", 0, -8, 1}, {"greater", 2, 2, 0}, {"atleast", 2, 2, 1}, {"atleast", 1, 2, 0},
		{"add; negate", -7, -1, -8}, {"add; negate", 2, 3, -5}, {"add; not", 1, -1, 1}, {"add; not", 0, 1, 0}, {"add; not", 0, 5, 0}, {"add; not", 0, -8, 0},
	} {
		count := 4 + strings.Count(c.words, ";")
		check(t, []sample{{"proc f 2 2 1; load 0; load 1; " + c.words + "; return; end", []int{c.x, c.y}, ends(count, c.value)}})
	}
	check(t, []sample{
		{"proc f 1 1 1; push 6; load 0; div; return; end", []int{0}, faults(api.FaultDivide, 0, 2, 3)},
		{"proc f 1 1 1; push 6; load 0; mod; return; end", []int{0}, faults(api.FaultDivide, 0, 2, 3)},
		{"proc f 1 1 1; load 0; push 6; div; return; end", []int{0}, ends(4, 0)},
		{"proc f 1 1 -1 0; load 0; assert; push 1; store 0; end", []int{0}, faults(api.FaultAssert, 0, 1, 2)},
		{"proc f 1 1 -1 0; load 0; assert; push 1; store 0; end", []int{-5}, ends(4, 1)},
		{"proc f 1 1 -1 0; push 16; assert; end", []int{-5}, faults(api.FaultAssert, 0, 1, 2)},
	})
}

func TestIf(t *testing.T) {
	check(t, []sample{
		{"proc f 1 1 1; load 0; if; push 2; else; push 3; end; return; end", []int{1}, ends(4, 2)},
		{"proc f 1 1 1; load 0; if; push 2; else; push 3; end; return; end", []int{0}, ends(4, 3)},
		{"proc f 1 1 1; load 0; if; push 2; else; push 3; end; return; end", []int{-3}, ends(4, 2)},
		{"proc f 1 1 1; push 4; load 0; if; push 2; else; push 3; end; sub; return; end", []int{0}, ends(6, 1)},
		{"proc f 1 1 1; load 0; if; push 0; assert; else; push 0; assert; end; push 1; return; end", []int{1}, faults(api.FaultAssert, 0, 3, 4)},
		{"proc f 1 1 1; load 0; if; push 0; assert; else; push 0; assert; end; push 1; return; end", []int{0}, faults(api.FaultAssert, 0, 5, 4)},
		{"proc f 1 1 1; load 0; if; push 4; return; else; end; push 5; return; end", []int{1}, ends(4, 4)},
		{"proc f 1 1 1; load 0; if; push 4; return; else; end; push 5; return; end", []int{0}, ends(4, 5)},
		{"proc f 1 1 1; load 0; if; else; push 4; return; end; push 5; return; end", []int{0}, ends(4, 4)},
		{"proc f 1 1 1; load 0; if; load 0; if; push 4; return; else; end; else; end; push 5; return; end", []int{1}, ends(6, 4)},
		{"proc f 1 1 1; load 0; if; else; end; push 6; load 0; div; return; end", []int{0}, faults(api.FaultDivide, 0, 4, 5)},
		{"proc f 1 1 1; load 0; if; load 0; if; else; push 1; assert; end; else; end; push 6; load 0; div; return; end", []int{0}, faults(api.FaultDivide, 0, 8, 5)},
	})
}

func TestLoop(t *testing.T) {
	down := "proc f 1 1 -1 0; loop; load 0; do; load 0; push 1; sub; store 0; end; end"
	nested := "proc f 1 3 -1 2; load 0; store 1; loop; load 1; do; load 1; push 1; sub; store 1; push 2; store 0; loop; load 0; do; load 0; push 1; sub; store 0; load 2; push 1; add; store 2; end; end; end"
	check(t, []sample{
		{down, []int{0}, ends(2, 0)},
		{down, []int{2}, ends(12, 0)},
		{down, []int{3}, ends(17, 0)},
		{down, []int{4}, faults(api.FaultLimit, 0, 0, 17)},
		{down, []int{-1}, faults(api.FaultLimit, 0, 0, 17)},
		{nested, []int{3}, ends(3+4+3*6+3*(1+3+2*8), 6)},
		{"proc f 1 1 -1 0; push 0; assert; end; proc g 1 1 -1 0; loop; push 6; load 0; div; do; push 0; store 0; end; end", []int{0}, faults(api.FaultDivide, 1, 5, 4)},
		{"proc f 1 1 -1 0; loop; push 6; load 0; div; do; push 0; store 0; end; end", []int{6}, faults(api.FaultDivide, 0, 5, 9)},
		{"proc f 1 1 -1 0; loop; push 1; do; push 6; load 0; div; store 0; end; end", []int{6}, faults(api.FaultLimit, 0, 0, 1+4+3*4)},
		{"proc f 1 1 -1 0; loop; push 1; do; push 6; load 0; div; store 0; end; end", []int{0}, faults(api.FaultDivide, 0, 3, 5)},
		{"proc f 1 1 1; loop; push 1; do; push 3; return; end; end", []int{6}, ends(4, 3)},
		{"proc f 1 1 1; loop; push 0; do; push 3; return; end; end", []int{6}, faults(api.FaultReturn, 0, 4, 2)},
		{"proc f 1 1 1; loop; push 1; do; load 0; if; push 3; return; else; push 1; store 0; end; end; end", []int{0}, ends(1+2*1+2+2+2+2, 3)},
	})
	c := parsed(t, down)
	for loops := range 9 {
		b := api.Bounds{Width: 5, Loops: loops}
		if got := run(t, c, 0, b, loops); !same(got, ends(2+5*loops, 0)) {
			t.Error(loops, got)
		}
		if got := run(t, c, 0, b, loops+1); !same(got, faults(api.FaultLimit, 0, 0, 2+5*loops)) {
			t.Error(loops, got)
		}
	}
}

func TestReturn(t *testing.T) {
	check(t, []sample{
		{"proc f 0 1 -1 0; return; push 1; store 0; end", nil, ends(1, 0)},
		{"proc f 0 1 -1 0; push 1; store 0; return; return; end", nil, ends(3, 1)},
		{"proc f 0 0 0; return; end", nil, ends(1)},
		{"proc f 0 0 0; end", nil, faults(api.FaultReturn, 0, 0, 0)},
		{"proc f 0 0 1; end", nil, faults(api.FaultReturn, 0, 0, 0)},
		{"proc f 1 1 1; load 0; if; load 0; return; else; end; end", []int{1}, ends(4, 1)},
		{"proc f 1 1 1; load 0; if; load 0; return; else; end; end", []int{0}, faults(api.FaultReturn, 0, 4, 2)},
	})
}

func TestCall(t *testing.T) {
	check(t, []sample{
		{"proc g 2 3 1; load 0; load 1; sub; return; end; proc f 2 2 1; push 3; load 0; load 1; call 0; add; return; end", []int{5, 2}, ends(10, 6)},
		{"proc g 0 1 -1 0; load 0; push 1; add; store 0; end; proc f 0 0 2; call 0; call 0; return; end", nil, ends(11, 1, 1)},
		{"proc g 1 2 -1 1 0 1; push 7; store 1; end; proc f 0 0 4; push 2; push 3; call 0; return; end", nil, ends(6, 2, 7, 3, 7)},
		{"proc g 0 0 0; return; end; proc f 0 0 1; push 2; call 0; return; end", nil, ends(4, 2)},
		{"proc g 3 3 3; load 2; load 1; load 0; return; end; proc f 1 2 -1 0 1; push 1; push 2; push 3; call 0; call 0; store 1; store 0; assert; end", []int{5}, ends(16, 2, 3)},
		{"proc g 1 1 1; push 1; load 0; div; return; end; proc h 1 1 1; push 1; push 1; load 0; call 0; add; sub; return; end; proc f 1 1 1; load 0; call 1; return; end", []int{0}, faults(api.FaultDivide, 0, 2, 9)},
		{"proc g 1 1 1; push 1; load 0; div; return; end; proc h 1 1 1; push 1; push 1; load 0; call 0; add; sub; return; end; proc f 1 1 1; load 0; call 1; return; end", []int{1}, ends(14, -1)},
		{"proc g 1 1 1; load 0; assert; end; proc f 1 1 1; load 0; call 0; return; end", []int{1}, faults(api.FaultReturn, 0, 2, 4)},
		{"proc g 1 1 1; load 0; return; end; proc f 1 1 1; load 0; call 0; assert; end", []int{1}, faults(api.FaultReturn, 1, 3, 5)},
		{"proc g 1 1 1; load 0; return; end; proc f 1 1 1; push 2; load 0; call 0; div; return; end", []int{0}, faults(api.FaultDivide, 1, 3, 6)},
		{"proc g 1 1 -1 0; loop; load 0; do; load 0; push 1; sub; store 0; end; end; proc f 0 1 -1 0; push 3; call 0; push 3; call 0; add; store 0; push 4; call 0; assert; end", nil, faults(api.FaultLimit, 0, 0, 8+3*17)},
	})
	c := parsed(t, "proc g 1 1 1; load 0; return; end; proc h 0 1 -1 0; push 3; call 0; store 0; end; proc f 0 0 -1; end")
	b := api.Bounds{Width: 4, Loops: 3}
	if g, h := run(t, c, 0, b, 5), run(t, c, 1, b); !same(g, ends(2, 5)) || !same(h, ends(5, 3)) {
		t.Error(g, h)
	}
}

func TestExampleOfRun(t *testing.T) {
	p, _, _ := checker.Check("proc f(x: int): int { return 6 / x; }")
	c, _ := compiler.Compile(p)
	b := api.Bounds{Width: 4, Loops: 3}
	if got := run(t, c, 0, b, 0); !same(got, faults(api.FaultDivide, 0, 2, 3)) {
		t.Error(got)
	}
	if got := run(t, c, 0, b, -4); !same(got, ends(4, -1)) {
		t.Error(got)
	}
}

// expensive returns code whose last procedure has the cost 2^26 with some instructions more, of which few are executed.
func expensive(t *testing.T, more int) api.Code {
	t.Helper()
	s := "proc a 0 0 -1; " + strings.Repeat("return; ", 1023) + "end; proc b 0 0 -1; " + strings.Repeat("call 0; ", 255) + strings.Repeat("return; ", 1023) + "end; proc c 1 1 -1; " + strings.Repeat("call 1; ", 256) + strings.Repeat("return; ", more) + "end"
	return parsed(t, s)
}

func TestErrorsOfRun(t *testing.T) {
	good := parsed(t, "proc g 0 0 -1; end; proc f 2 2 1; load 0; return; end")
	wrong := parsed(t, "proc g 0 0 -1; end; proc f 2 2 1; load 0; return; end")
	wrong.Procedures[0].Slots = -1
	b := api.Bounds{Width: 4, Loops: 3}
	for i, x := range []struct {
		c         api.Code
		procedure int
		b         api.Bounds
		input     []int
		want      api.Errno
	}{
		{good, 1, b, []int{1, 2}, api.OK}, {good, 0, b, nil, api.OK}, {good, 0, b, []int{}, api.OK},
		{good, 1, api.Bounds{Width: 2}, []int{1, -2}, api.OK}, {good, 1, api.Bounds{Width: 8, Loops: 8}, []int{127, -128}, api.OK},
		{good, 1, api.Bounds{Width: 1, Loops: 3}, []int{0, 0}, api.ErrArg}, {good, 1, api.Bounds{Width: 9, Loops: 3}, []int{0, 0}, api.ErrArg}, {good, 1, api.Bounds{Width: math.MinInt, Loops: 3}, []int{0, 0}, api.ErrArg}, {good, 1, api.Bounds{}, []int{0, 0}, api.ErrArg},
		{good, 1, api.Bounds{Width: 4, Loops: -1}, []int{0, 0}, api.ErrArg}, {good, 1, api.Bounds{Width: 4, Loops: 9}, []int{0, 0}, api.ErrArg}, {good, 1, api.Bounds{Width: 4, Loops: math.MaxInt}, []int{0, 0}, api.ErrArg}, {good, 7, api.Bounds{}, nil, api.ErrArg},
		{wrong, 1, b, []int{1, 2}, api.ErrArg}, {wrong, 2, b, nil, api.ErrArg},
		{good, -1, b, []int{1, 2}, api.ErrNotFound}, {good, 2, b, nil, api.ErrNotFound}, {good, math.MaxInt, b, []int{99}, api.ErrNotFound}, {api.Code{}, 0, b, nil, api.ErrNotFound},
		{good, 1, b, nil, api.ErrRange}, {good, 1, b, []int{1}, api.ErrRange}, {good, 1, b, []int{1, 2, 3}, api.ErrRange}, {good, 0, b, []int{0}, api.ErrRange},
		{good, 1, b, []int{7, -8}, api.OK}, {good, 1, b, []int{8, 0}, api.ErrRange}, {good, 1, b, []int{0, -9}, api.ErrRange}, {good, 1, b, []int{math.MinInt, 0}, api.ErrRange}, {good, 1, b, []int{0, math.MaxInt}, api.ErrRange},
		{expensive(t, 0), 2, b, []int{0}, api.OK}, {expensive(t, 1), 2, b, []int{0}, api.ErrTooLarge}, {expensive(t, 99), 2, b, []int{0}, api.ErrTooLarge}, {expensive(t, 1), 2, b, []int{8}, api.ErrTooLarge}, {expensive(t, 0), 2, b, []int{8}, api.ErrRange}, {expensive(t, 1), 1, b, nil, api.OK},
	} {
		o, at, number, e := machine.Run(x.c, x.procedure, x.b, x.input)
		count, f := machine.Count(x.c, x.procedure, x.b, x.input)
		if e != x.want || f != x.want || at != -1 || number != -1 || o.Fault != api.FaultNone || e != api.OK && (len(o.Out) > 0 || count != 0) {
			t.Error(i, o, at, number, count, e, f)
		}
	}
	if got := run(t, expensive(t, 0), 2, b, 0); !same(got, ends(1<<17)) {
		t.Error(got)
	}
}

// The rounds that a loop may make count for the cost.
func TestCostWithLoops(t *testing.T) {
	s := "proc f 0 1 -1; " + strings.Repeat("loop; load 0; do; ", 9) + strings.Repeat("end; ", 9) + "end"
	c := parsed(t, s)
	// The cost is 60530409 with 7 rounds, and 191739610 with 8.
	for loops := range 9 {
		_, _, _, e := machine.Run(c, 0, api.Bounds{Width: 4, Loops: loops}, nil)
		if (e == api.OK) != (loops < 8) || loops == 8 && e != api.ErrTooLarge {
			t.Error(loops, e)
		}
	}
}

// A list of instructions may contain itself.
func TestCodeWithoutAnEnd(t *testing.T) {
	l := []api.Instr{{Op: api.InstrPush, A: 1}, {Op: api.InstrIf}}
	l[1].Body = l
	c := api.Code{Procedures: []api.CodeProcedure{{Name: "f", Result: -1, Body: l}}}
	if _, _, _, e := machine.Run(c, 0, api.Bounds{Width: 4}, nil); e != api.ErrArg {
		t.Error(e)
	}
	if _, e := machine.Count(c, 0, api.Bounds{Width: 4}, nil); e != api.ErrArg {
		t.Error(e)
	}
}

// P15.2

// expected returns what an operation computes, by the definitions of layer 11.
func expected(width, op, y, x int) (int, int) {
	truth := func(holds bool) (int, int) {
		if holds {
			return 1, api.FaultNone
		}
		return 0, api.FaultNone
	}
	n := 0
	switch op {
	case api.InstrAdd:
		n = y + x
	case api.InstrSub:
		n = y - x
	case api.InstrMul:
		n = y * x
	case api.InstrDiv, api.InstrMod:
		if x == 0 {
			return 0, api.FaultDivide
		}
		quotient := 0
		for (quotient+1)*abs(x) <= abs(y) {
			quotient++
		}
		if (x < 0) != (y < 0) {
			quotient = -quotient
		}
		n = quotient
		if op == api.InstrMod {
			n = y - x*quotient
		}
	case api.InstrEqual:
		return truth(y == x)
	case api.InstrUnequal:
		return truth(y != x)
	case api.InstrLess:
		return truth(y < x)
	case api.InstrAtMost:
		return truth(y <= x)
	case api.InstrGreater:
		return truth(y > x)
	case api.InstrAtLeast:
		return truth(y >= x)
	case api.InstrNegate:
		n = -x
	case api.InstrNot:
		return truth(x == 0)
	}
	for n < -1<<(width-1) {
		n += 1 << width
	}
	for n >= 1<<(width-1) {
		n -= 1 << width
	}
	return n, api.FaultNone
}

func abs(n int) int { return max(n, -n) }

func TestApplyOfAllScalars(t *testing.T) {
	for width := api.MinWidth; width <= 5; width++ {
		for op := api.InstrAdd; op <= api.InstrNot; op++ {
			for y := -1 << (width - 1); y < 1<<(width-1); y++ {
				for x := -1 << (width - 1); x < 1<<(width-1); x++ {
					rest := []int{5, 1000}
					if op >= api.InstrNegate {
						rest = append(rest, y)
					}
					n, fault := expected(width, op, y, x)
					want := rest
					if fault == api.FaultNone {
						want = append(slices.Clone(rest), n)
					}
					got, f, e := machine.Apply(width, op, []int{5, 1000, y, x})
					if !slices.Equal(got, want) || f != fault || e != api.OK {
						t.Fatal(width, op, y, x, got, f, e)
					}
				}
			}
		}
	}
}

func TestApply(t *testing.T) {
	for i, x := range []struct {
		width, op   int
		stack, want []int
		fault       int
		e           api.Errno
	}{
		{4, api.InstrSub, []int{5, 1, 3}, []int{5, -2}, api.FaultNone, api.OK},
		{8, api.InstrMul, []int{127, 127}, []int{1}, api.FaultNone, api.OK}, {8, api.InstrNegate, []int{-128}, []int{-128}, api.FaultNone, api.OK}, {8, api.InstrNot, []int{-128}, []int{0}, api.FaultNone, api.OK}, {8, api.InstrNot, []int{2, 0}, []int{2, 1}, api.FaultNone, api.OK},
		{4, api.InstrDiv, []int{5, 1, 0}, []int{5}, api.FaultDivide, api.OK}, {4, api.InstrMod, []int{1, 0}, nil, api.FaultDivide, api.OK}, {2, api.InstrDiv, []int{-2, -1}, []int{-2}, api.FaultNone, api.OK},
		{1, api.InstrAdd, []int{0, 0}, nil, 0, api.ErrRange}, {9, api.InstrAdd, []int{0, 0}, nil, 0, api.ErrRange}, {math.MinInt, api.InstrAdd, nil, nil, 0, api.ErrRange}, {0, -1, nil, nil, 0, api.ErrRange},
		{4, -1, []int{0, 0}, nil, 0, api.ErrArg}, {4, api.InstrStoreAt, []int{0, 0}, nil, 0, api.ErrArg}, {4, api.InstrIf, []int{0, 0}, nil, 0, api.ErrArg}, {4, api.InstrPush, []int{0, 0}, nil, 0, api.ErrArg}, {4, api.InstrAssert, []int{1}, nil, 0, api.ErrArg}, {4, math.MaxInt, nil, nil, 0, api.ErrArg}, {4, api.InstrReturn, nil, nil, 0, api.ErrArg},
		{4, api.InstrAdd, nil, nil, 0, api.ErrState}, {4, api.InstrAdd, []int{1}, nil, 0, api.ErrState}, {4, api.InstrMod, []int{99}, nil, 0, api.ErrState}, {4, api.InstrNegate, nil, nil, 0, api.ErrState}, {4, api.InstrNot, []int{}, nil, 0, api.ErrState},
		{4, api.InstrAdd, []int{8, 0}, nil, 0, api.ErrRange}, {4, api.InstrAdd, []int{0, -9}, nil, 0, api.ErrRange}, {4, api.InstrDiv, []int{8, 0}, nil, 0, api.ErrRange}, {4, api.InstrNot, []int{0, 8}, nil, 0, api.ErrRange}, {4, api.InstrNot, []int{8, 0}, []int{8, 1}, api.FaultNone, api.OK}, {4, api.InstrLess, []int{math.MinInt, 0, 1}, []int{math.MinInt, 1}, api.FaultNone, api.OK}, {8, api.InstrEqual, []int{0, math.MaxInt}, nil, 0, api.ErrRange},
	} {
		stack := slices.Clone(x.stack)
		got, fault, e := machine.Apply(x.width, x.op, x.stack)
		if !slices.Equal(got, x.want) || fault != x.fault || e != x.e || !slices.Equal(stack, x.stack) {
			t.Error(i, got, fault, e)
		}
	}
}

func TestArgumentsStay(t *testing.T) {
	stack := []int{1, 0, 3, 0}
	for op := api.InstrAdd; op <= api.InstrNot; op++ {
		got, _, _ := machine.Apply(4, op, stack)
		got = append(got, 7, 7)
		for i := range got {
			got[i] = 7
		}
		if !slices.Equal(stack, []int{1, 0, 3, 0}) {
			t.Fatal(op, stack)
		}
	}
	s := "proc g 1 2 -1 1 0; load 0; store 1; end; proc f 2 2 -1 1 0; push 3; store 0; push 2; call 0; store 0; assert; end"
	c, kept, input := parsed(t, s), parsed(t, s), []int{1, 2}
	b := api.Bounds{Width: 4, Loops: 3}
	one, _, _, _ := machine.Run(c, 1, b, input)
	two, _, _, _ := machine.Run(c, 1, b, input)
	machine.Count(c, 1, b, input)
	one.Out[0] = 9
	if !reflect.DeepEqual(c, kept) || !slices.Equal(input, []int{1, 2}) || !slices.Equal(two.Out, []int{2, 2}) {
		t.Error(c, input, two)
	}
}
