package certificate_test

import (
	"slices"

	"assessor/api"
	"assessor/checker"
	"assessor/compiler"
	"assessor/types"
)

// net builds a circuit by the definitions of layer 24. Unlike a builder it may have any number of nodes.
type net struct {
	width, inputs int
	gates         [][2]int
	known         map[[2]int]int
}

func (n *net) nodes() int { return 1 + n.inputs + len(n.gates) }

func not(x int) int {
	if x%2 == 0 {
		return x + 1
	}
	return x - 1
}

func (n *net) and(x, y int) int {
	if x == 0 || y == 0 || x == not(y) {
		return 0
	}
	if x == 1 || x == y {
		return y
	}
	if y == 1 {
		return x
	}
	pair := [2]int{min(x, y), max(x, y)}
	if old, ok := n.known[pair]; ok {
		return old
	}
	n.known[pair] = 2 * n.nodes()
	n.gates = append(n.gates, pair)
	return n.known[pair]
}

func (n *net) or(x, y int) int { return not(n.and(not(x), not(y))) }

func (n *net) xor(x, y int) int {
	first := n.and(x, not(y))
	second := n.and(not(x), y)
	return n.or(first, second)
}

func (n *net) mux(c, x, y int) int {
	first := n.and(c, x)
	second := n.and(not(c), y)
	return n.or(first, second)
}

// translated returns the formula of the circuit and a literal, by the definition of layer 26.
func (n *net) translated(w int) api.Formula {
	literal := func(x int) int {
		if x%2 == 0 {
			return x/2 + 1
		}
		return -((x-1)/2 + 1)
	}
	f := api.Formula{Variables: n.nodes(), Clauses: [][]int{{-1}}}
	for i, g := range n.gates {
		v := 2 + n.inputs + i
		// The variables of a gate's literals are less than its own, and increase.
		p, q := literal(g[0]), literal(g[1])
		f.Clauses = append(f.Clauses, []int{p, -v}, []int{q, -v}, []int{-p, -q, v})
	}
	f.Clauses = append(f.Clauses, []int{literal(w)})
	return f
}

// The words of the chapter.

func (n *net) number(k int) []int {
	var l []int
	for range n.width {
		bit := k % 2
		if bit < 0 {
			bit = 1
		}
		l = append(l, bit)
		k = (k - bit) / 2
	}
	return l
}

func (n *net) literal(x int) []int { return append([]int{x}, make([]int, n.width-1)...) }

func negated(x []int) []int {
	var l []int
	for _, b := range x {
		l = append(l, not(b))
	}
	return l
}

func (n *net) sum(x, y []int, c int) []int {
	var l []int
	for i := range x {
		h := n.xor(x[i], y[i])
		l = append(l, n.xor(h, c))
		if i == len(x)-1 {
			break
		}
		both := n.and(x[i], y[i])
		over := n.and(h, c)
		c = n.or(both, over)
	}
	return l
}

func (n *net) negative(x []int) []int { return n.sum(n.number(0), negated(x), 1) }

func (n *net) product(x, y []int) []int {
	result := n.number(0)
	for i := range y {
		row := make([]int, i)
		for k := 0; k+i < n.width; k++ {
			row = append(row, n.and(x[k], y[i]))
		}
		result = n.sum(result, row, 0)
	}
	return result
}

func (n *net) choose(c int, x, y []int) []int {
	var l []int
	for i := range x {
		l = append(l, n.mux(c, x[i], y[i]))
	}
	return l
}

func (n *net) some(x []int) int {
	is := 0
	for _, b := range x {
		is = n.or(is, b)
	}
	return is
}

func (n *net) equal(x, y []int) int {
	is := 1
	for i := range x {
		d := n.xor(x[i], y[i])
		is = n.and(is, not(d))
	}
	return is
}

func (n *net) less(x, y []int) int {
	l := 0
	for i := range x {
		d := n.xor(x[i], y[i])
		if i < len(x)-1 {
			l = n.mux(d, y[i], l)
		} else {
			l = n.mux(d, x[i], l)
		}
	}
	return l
}

func (n *net) quotient(x, y []int) ([]int, []int) {
	s, t := x[len(x)-1], y[len(y)-1]
	minus := n.negative(x)
	a := n.choose(s, minus, x)
	minus = n.negative(y)
	b := n.choose(t, minus, y)
	q, r := n.number(0), n.number(0)
	for i := len(a) - 1; i >= 0; i-- {
		r = append([]int{a[i]}, r[:len(r)-1]...)
		g := 1
		var d []int
		for k := range r {
			m := not(b[k])
			h := n.xor(r[k], m)
			d = append(d, n.xor(h, g))
			both := n.and(r[k], m)
			over := n.and(h, g)
			g = n.or(both, over)
		}
		q[i] = g
		r = n.choose(g, d, r)
	}
	differ := n.xor(s, t)
	minus = n.negative(q)
	q = n.choose(differ, minus, q)
	minus = n.negative(r)
	return q, n.choose(s, minus, r)
}

// place is a frame, a stack and a guard: a value that is never changed.
type place struct {
	slots, stack [][]int
	guard        int
}

// with returns the place with a word in a slot.
func (p place) with(slot int, x []int) place {
	p.slots = slices.Clone(p.slots)
	p.slots[slot] = x
	return p
}

// pushed returns the place with words on the stack.
func (p place) pushed(l ...[]int) place {
	p.stack = slices.Concat(p.stack, l)
	return p
}

// popped returns the place without the word that was pushed last, and this word.
func (p place) popped() (place, []int) {
	last := len(p.stack) - 1
	x := p.stack[last]
	p.stack = p.stack[:last]
	return p, x
}

// whole is a run of code; procedure is what belongs to one of its procedures.
type whole struct {
	*net
	code   api.Code
	loops  int
	faults map[int]int
}

type procedure struct {
	*whole
	api.CodeProcedure
	returned int
	out      [][]int
}

func (w *whole) run(name string, input [][]int, guard int) *procedure {
	i := slices.IndexFunc(w.code.Procedures, func(x api.CodeProcedure) bool { return x.Name == name })
	return w.call(i, input, guard)
}

func (w *whole) call(i int, input [][]int, guard int) *procedure {
	x := &procedure{whole: w, CodeProcedure: w.code.Procedures[i]}
	count := x.Result
	if count < 0 {
		count = len(x.Outputs)
	}
	for range count {
		x.out = append(x.out, w.number(0))
	}
	p := place{slots: slices.Clone(input), guard: guard}
	for len(p.slots) < x.Slots {
		p.slots = append(p.slots, w.number(0))
	}
	p = x.list(p, x.Body)
	if x.Result >= 0 {
		x.fault(p, api.FaultReturn, 1)
	} else {
		x.leave(p)
	}
	return x
}

func (x *procedure) fault(p place, kind, c int) place {
	f := x.and(p.guard, c)
	x.faults[kind] = x.or(x.faults[kind], f)
	p.guard = x.and(p.guard, not(c))
	return p
}

func (x *procedure) leave(p place) place {
	values := slices.Clone(p.stack)
	for _, slot := range x.Outputs {
		values = append(values, p.slots[slot])
	}
	for i := range x.out {
		x.out[i] = x.choose(p.guard, values[i], x.out[i])
	}
	x.returned = x.or(x.returned, p.guard)
	return place{slots: p.slots}
}

func (x *procedure) merge(c int, a, b place) place {
	var p place
	for i := range a.slots {
		p.slots = append(p.slots, x.choose(c, a.slots[i], b.slots[i]))
	}
	for i := range a.stack {
		p.stack = append(p.stack, x.choose(c, a.stack[i], b.stack[i]))
	}
	p.guard = x.or(a.guard, b.guard)
	return p
}

func (x *procedure) list(p place, l []api.Instr) place {
	for _, i := range l {
		p = x.step(p, i)
	}
	return p
}

func (x *procedure) step(p place, i api.Instr) place {
	switch i.Op {
	case api.InstrPush:
		return p.pushed(x.number(i.A))
	case api.InstrLoad:
		return p.pushed(p.slots[i.A])
	case api.InstrLoop:
		return x.round(p, i, 0)
	case api.InstrCall:
		rest := len(p.stack) - x.code.Procedures[i.A].Parameters
		called := x.call(i.A, p.stack[rest:], p.guard)
		p.stack, p.guard = p.stack[:rest], called.returned
		return p.pushed(called.out...)
	case api.InstrReturn:
		return x.leave(p)
	}
	p, last := p.popped()
	switch i.Op {
	case api.InstrStore:
		return p.with(i.A, last)
	case api.InstrLoadAt:
		p, hits := x.hits(p, last, i.B)
		word := x.number(0)
		for k, hit := range hits {
			word = x.choose(hit, p.slots[i.A+k], word)
		}
		return p.pushed(word)
	case api.InstrNegate:
		return p.pushed(x.negative(last))
	case api.InstrNot:
		return p.pushed(x.literal(not(x.some(last))))
	case api.InstrIf:
		c := x.some(last)
		a, b := p, p
		a.guard = x.and(p.guard, c)
		a = x.list(a, i.Body)
		b.guard = x.and(p.guard, not(c))
		b = x.list(b, i.Else)
		return x.merge(c, a, b)
	case api.InstrAssert:
		return x.fault(p, api.FaultAssert, not(x.some(last)))
	}
	p, before := p.popped()
	return x.binary(p, i, before, last)
}

func (x *procedure) binary(p place, i api.Instr, y, last []int) place {
	var w []int
	switch i.Op {
	case api.InstrStoreAt:
		p, hits := x.hits(p, y, i.B)
		for k, hit := range hits {
			p = p.with(i.A+k, x.choose(hit, last, p.slots[i.A+k]))
		}
		return p
	case api.InstrAdd:
		w = x.sum(y, last, 0)
	case api.InstrSub:
		w = x.sum(y, negated(last), 1)
	case api.InstrMul:
		w = x.product(y, last)
	case api.InstrDiv, api.InstrMod:
		p = x.fault(p, api.FaultDivide, not(x.some(last)))
		q, r := x.quotient(y, last)
		w = q
		if i.Op == api.InstrMod {
			w = r
		}
	case api.InstrEqual:
		w = x.literal(x.equal(y, last))
	case api.InstrUnequal:
		w = x.literal(not(x.equal(y, last)))
	case api.InstrLess:
		w = x.literal(x.less(y, last))
	case api.InstrAtLeast:
		w = x.literal(not(x.less(y, last)))
	case api.InstrGreater:
		w = x.literal(x.less(last, y))
	case api.InstrAtMost:
		w = x.literal(not(x.less(last, y)))
	}
	return p.pushed(w)
}

func (x *procedure) hits(p place, index []int, count int) (place, []int) {
	var l []int
	greatest := 1
	for range x.width - 1 {
		greatest *= 2
	}
	for i := 0; i < count && i < greatest; i++ {
		l = append(l, x.equal(index, x.number(i)))
	}
	any := 0
	for _, hit := range l {
		any = x.or(any, hit)
	}
	return x.fault(p, api.FaultIndex, not(any)), l
}

func (x *procedure) round(p place, i api.Instr, done int) place {
	p = x.list(p, i.Else)
	p, last := p.popped()
	c := x.some(last)
	if done == x.loops {
		return x.fault(p, api.FaultLimit, c)
	}
	a, b := p, p
	a.guard = x.and(p.guard, c)
	a = x.round(x.list(a, i.Body), i, done+1)
	b.guard = x.and(p.guard, not(c))
	return x.merge(c, a, b)
}

// scalars returns the types of the scalars of an input.
func scalars(x api.Exercise) []api.Type {
	p, _, _ := checker.Check(x.Source)
	i, _ := checker.Find(p, x.Entry)
	var l []api.Type
	for _, v := range p.Procedures[i].Variables[:p.Procedures[i].Parameters] {
		l = append(l, types.Scalars(p.Records, v.Type)...)
	}
	return l
}

// built returns the circuit of a valid exercise and a submission that has code, and the literal of its formula, by the chapter.
func built(x api.Exercise, source string) (*net, int) {
	n := &net{width: x.Bounds.Width, known: map[[2]int]int{}}
	var words [][]int
	for _, t := range scalars(x) {
		word := n.number(0)
		for k := range word {
			if t.Kind == api.TypeInt || k == 0 {
				n.inputs++
				word[k] = 2 * n.inputs
			}
		}
		words = append(words, word)
	}
	run := func(source, name string, input [][]int, guard int) (*procedure, map[int]int) {
		p, _, _ := checker.Check(source)
		c, _ := compiler.Compile(p)
		w := &whole{net: n, code: c, loops: x.Bounds.Loops, faults: map[int]int{}}
		return w.run(name, input, guard), w.faults
	}
	holds := func(name string, input [][]int, guard int) int {
		x, _ := run(x.Source, name, input, guard)
		return n.and(x.returned, n.some(x.out[0]))
	}
	d := 1
	for i, r := range x.Ranges {
		d = n.and(d, not(n.less(words[i], n.number(r.Lo))))
		d = n.and(d, not(n.less(n.number(r.Hi), words[i])))
	}
	if x.Given != "" {
		d = n.and(d, holds(x.Given, words, 1))
	}
	student, faults := run(source, x.Entry, words, 1)
	r := 1
	if x.Model {
		teacher, expected := run(x.Source, x.Entry, words, 1)
		e := 1
		for i := range teacher.out {
			e = n.and(e, n.equal(student.out[i], teacher.out[i]))
		}
		s := n.or(not(student.returned), e)
		for k := api.FaultDivide; k <= api.FaultLimit; k++ {
			s = n.and(s, not(n.xor(faults[k], expected[k])))
		}
		r = n.and(r, s)
	}
	if x.Accepts != "" {
		r = n.and(r, holds(x.Accepts, slices.Concat(words, student.out), student.returned))
	}
	return n, n.and(d, not(r))
}
