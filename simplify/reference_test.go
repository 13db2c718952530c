package simplify_test

import (
	"slices"
	"strconv"
	"strings"

	"assessor/api"
	"assessor/bitvec"
)

// The names of operators in the forms below.
var operators = map[string]int{
	"neg": api.OpNeg, "add": api.OpAdd, "sub": api.OpSub, "mul": api.OpMul, "div": api.OpDiv, "rem": api.OpRem, "choose": api.OpChoose,
	"not": api.OpNot, "and": api.OpAnd, "or": api.OpOr, "same": api.OpSame, "pick": api.OpPick, "equal": api.OpEqual, "less": api.OpLess,
}

// The chapter's rules in their order: a form, in which letters are nodes, and the result.
const chapter = `
neg(neg(a)): a
add(0 b): b
add(a 0): a
add(a neg(b)): sub(a b)
add(neg(a) b): sub(b a)
sub(a a): 0
sub(a 0): a
sub(0 b): neg(b)
sub(a neg(b)): add(a b)
mul(0 b): 0
mul(a 0): 0
mul(1 b): b
mul(a 1): a
mul(-1 b): neg(b)
mul(a -1): neg(a)
div(a 0): 0
div(0 b): 0
div(a 1): a
div(a -1): neg(a)
rem(a 0): a
rem(0 b): 0
rem(a 1): 0
rem(a -1): 0
rem(a a): 0
choose(1 a b): a
choose(0 a b): b
choose(c a a): a
choose(not(d) a b): choose(d b a)
pick(1 a b): a
pick(0 a b): b
pick(c a a): a
pick(not(d) a b): pick(d b a)
pick(c 1 b): or(c b)
pick(c a 0): and(c a)
pick(c 0 1): not(c)
not(not(a)): a
and(0 b): 0
and(a 0): 0
and(1 b): b
and(a 1): a
and(a a): a
and(a not(a)): 0
and(not(b) b): 0
or(1 b): 1
or(a 1): 1
or(0 b): b
or(a 0): a
or(a a): a
or(a not(a)): 1
or(not(b) b): 1
same(a a): 1
same(1 b): b
same(a 1): a
same(0 b): not(b)
same(a 0): not(a)
same(a not(a)): 0
same(not(b) b): 0
equal(a a): 1
less(a a): 0
less(a min): 0
less(max b): 0
`

// form is a form of the chapter: a word with some forms.
type form struct {
	word string
	args []form
}

// readForm returns the form with which a text begins, and the rest.
func readForm(s string) (form, string) {
	end := strings.IndexAny(s, "( )")
	if end < 0 {
		return form{word: s}, ""
	}
	f := form{word: s[:end]}
	s = s[end:]
	if s[0] != '(' {
		return f, s
	}
	for s[0] != ')' {
		var arg form
		arg, s = readForm(s[1:])
		f.args = append(f.args, arg)
	}
	return f, s[1:]
}

// law is a rule of the chapter.
type law struct{ from, to form }

func laws() []law {
	var l []law
	for line := range strings.Lines(strings.TrimSpace(chapter)) {
		from, to, _ := strings.Cut(strings.TrimSpace(line), ": ")
		var x law
		x.from, _ = readForm(from)
		x.to, _ = readForm(to)
		l = append(l, x)
	}
	return l
}

// reference applies operators by the text of the chapter.
type reference struct {
	table *bitvec.Table
	laws  []law
}

// number returns the number that a word is, and whether it is one.
func (r reference) number(word string) (int, bool) {
	half := 1 << (r.table.Width() - 1)
	switch word {
	case "min":
		return -half, true
	case "max":
		return half - 1, true
	}
	n, e := strconv.Atoi(word)
	return n, e == nil
}

// matches reports whether a node has a form, and notes the nodes of letters.
func (r reference) matches(f form, i int, letters map[string]int) bool {
	x, _ := r.table.Node(i)
	if n, ok := r.number(f.word); ok {
		return (x.Op == api.OpNumber || x.Op == api.OpTruth) && x.Value == n
	}
	if len(f.args) > 0 {
		return x.Op == operators[f.word] && r.allMatch(f.args, x.Args[:], letters)
	}
	old, ok := letters[f.word]
	letters[f.word] = i
	return !ok || old == i
}

func (r reference) allMatch(l []form, args []int, letters map[string]int) bool {
	for k, f := range l {
		if !r.matches(f, args[k], letters) {
			return false
		}
	}
	return true
}

// constant makes a constant of the sort of nodes with an operator.
func (r reference) constant(op, value int) int {
	x := api.Term{Op: api.OpNumber, Value: value}
	if op >= api.OpNot {
		x.Op = api.OpTruth
	}
	i, _ := r.table.Make(x)
	return i
}

// result returns the node of a form, if letters are some nodes, as the result for an operator.
func (r reference) result(op int, f form, letters map[string]int) int {
	if n, ok := r.number(f.word); ok {
		return r.constant(op, n)
	}
	if len(f.args) == 0 {
		return letters[f.word]
	}
	var args []int
	for _, k := range f.args {
		args = append(args, letters[k.word])
	}
	return r.apply(operators[f.word], args...)
}

// apply returns the application of an operator.
func (r reference) apply(op int, args ...int) int {
	var values []int
	for _, a := range args {
		if x, _ := r.table.Node(a); x.Op == api.OpNumber || x.Op == api.OpTruth {
			values = append(values, x.Value)
		}
	}
	if len(values) == len(args) {
		return r.constant(op, meaning(r.table.Width(), op, values))
	}
	for _, x := range r.laws {
		letters := map[string]int{}
		if operators[x.from.word] == op && r.allMatch(x.from.args, args, letters) {
			return r.result(op, x.to, letters)
		}
	}
	x := api.Term{Op: op}
	copy(x.Args[:], args)
	i, _ := r.table.Make(x)
	return i
}

// simplified returns the simplified node of a node.
func (r reference) simplified(i int) int {
	x, _ := r.table.Node(i)
	if x.Op < api.OpNeg {
		return i
	}
	var args []int
	for _, a := range x.Args[:len(sorts(x.Op))-1] {
		args = append(args, r.simplified(a))
	}
	return r.apply(x.Op, args...)
}

// meaning returns the value of an operator on values.
func meaning(width, op int, v []int) int {
	a, b := v[0], v[len(v)-1]
	quotient, remainder := 0, a
	if b != 0 {
		quotient, remainder = a/b, a%b
	}
	results := map[int]int{api.OpNeg: -a, api.OpAdd: a + b, api.OpSub: a - b, api.OpMul: a * b, api.OpDiv: quotient, api.OpRem: remainder}
	if n, ok := results[op]; ok {
		for ; n < -1<<(width-1); n += 1 << width {
		}
		for ; n >= 1<<(width-1); n -= 1 << width {
		}
		return n
	}
	if op == api.OpChoose || op == api.OpPick {
		return []int{v[2], v[1]}[v[0]]
	}
	holds := map[int]bool{api.OpNot: a == 0, api.OpAnd: a == 1 && b == 1, api.OpOr: a == 1 || b == 1, api.OpSame: a == b, api.OpEqual: a == b, api.OpLess: a < b}
	if holds[op] {
		return 1
	}
	return 0
}

// sorts returns the sorts of the arguments of an operator, and behind them that of its nodes.
func sorts(op int) []int {
	number, truth := api.SortInt, api.SortBool
	switch op {
	case api.OpNeg:
		return []int{number, number}
	case api.OpChoose:
		return []int{truth, number, number, number}
	case api.OpNot:
		return []int{truth, truth}
	case api.OpAnd, api.OpOr, api.OpSame:
		return []int{truth, truth, truth}
	case api.OpPick:
		return []int{truth, truth, truth, truth}
	case api.OpEqual, api.OpLess:
		return []int{number, number, truth}
	}
	return []int{number, number, number}
}

// nodes returns all nodes of a table.
func nodes(b *bitvec.Table) []api.Term {
	var l []api.Term
	for i := range b.Len() {
		x, _ := b.Node(i)
		l = append(l, x)
	}
	return l
}

// remade returns a table with the same nodes.
func remade(b *bitvec.Table) *bitvec.Table {
	other, _ := bitvec.New(b.Width())
	for _, x := range nodes(b) {
		other.Make(x)
	}
	return other
}

// equalTables reports whether two tables have the same nodes.
func equalTables(a, b *bitvec.Table) bool { return slices.Equal(nodes(a), nodes(b)) }
