package blast

import (
	"assessor/api"
	"assessor/bitvec"
	"assessor/gates"
)

// counts are how many arguments operators need.
var counts = [...]int{
	api.OpNeg:    1,
	api.OpAdd:    2,
	api.OpSub:    2,
	api.OpMul:    2,
	api.OpDiv:    2,
	api.OpRem:    2,
	api.OpChoose: 3,
	api.OpNot:    1,
	api.OpAnd:    2,
	api.OpOr:     2,
	api.OpSame:   2,
	api.OpPick:   3,
	api.OpEqual:  2,
	api.OpLess:   2,
}

// arguments returns the numbers of the nodes that a node needs.
func arguments(x api.Term) []int { return x.Args[:counts[x.Op]] }

// part is a node that is to be translated.
type part struct {
	number int
	term   api.Term
}

// areNodes reports whether all of some numbers are those of nodes.
func areNodes(t *bitvec.Table, l []int) bool {
	for _, i := range l {
		if _, ok := t.Node(i); !ok {
			return false
		}
	}
	return true
}

// nodes returns the nodes of some nodes; those that a node needs come before it.
func nodes(t *bitvec.Table, roots []int) []part {
	needed := make([]bool, t.Len())
	for _, i := range roots {
		needed[i] = true
	}
	// What needs a node comes behind it, so that all of that is known when the node is looked at.
	for i := len(needed) - 1; i >= 0; i-- {
		if !needed[i] {
			continue
		}
		x, _ := t.Node(i)
		for _, a := range arguments(x) {
			needed[a] = true
		}
	}
	var l []part
	for i, is := range needed {
		if is {
			x, _ := t.Node(i)
			l = append(l, part{i, x})
		}
	}
	return l
}

// fits reports whether a node has its sort if it is an input.
func fits(x api.Term, sorts []int) bool {
	is := func(sort int) bool { return x.Value < len(sorts) && sorts[x.Value] == sort }
	switch x.Op {
	case api.OpInput:
		return is(api.SortInt)
	case api.OpFlag:
		return is(api.SortBool)
	}
	return true
}

// translate returns the words of some nodes by their numbers, unless the builder has an error.
func translate(width int, b *gates.Builder, inputs [][]int, parts []part) map[int][]int {
	apply := operators(b)
	words := map[int][]int{}
	for _, p := range parts {
		x := p.term
		switch x.Op {
		case api.OpInput, api.OpFlag:
			words[p.number] = inputs[x.Value]
		case api.OpNumber:
			words[p.number] = Constant(width, x.Value)
		case api.OpTruth:
			words[p.number] = []int{x.Value}
		default:
			var args [][]int
			for _, a := range arguments(x) {
				args = append(args, words[a])
			}
			words[p.number] = apply[x.Op](args...)
		}
		if b.Err() != api.OK {
			return nil
		}
	}
	return words
}

// operator returns the word that an operator makes of words.
type operator func(l ...[]int) []int

// operators returns the operators that have arguments.
func operators(b *gates.Builder) map[int]operator {
	binary := func(f func(b *gates.Builder, x, y []int) []int) operator {
		return func(l ...[]int) []int { return f(b, l[0], l[1]) }
	}
	test := func(f func(b *gates.Builder, x, y []int) int) operator {
		return func(l ...[]int) []int { return []int{f(b, l[0], l[1])} }
	}
	gate := func(f func(x, y int) int) operator {
		return func(l ...[]int) []int { return []int{f(l[0][0], l[1][0])} }
	}
	choice := func(l ...[]int) []int { return choose(b, l[0][0], l[1], l[2]) }
	return map[int]operator{
		api.OpNeg:    func(l ...[]int) []int { return negative(b, l[0]) },
		api.OpAdd:    binary(sum),
		api.OpSub:    binary(difference),
		api.OpMul:    binary(product),
		api.OpDiv:    binary(quotient),
		api.OpRem:    binary(remainder),
		api.OpChoose: choice,
		api.OpNot:    func(l ...[]int) []int { return not(l[0]) },
		api.OpAnd:    gate(b.And),
		api.OpOr:     gate(b.Or),
		api.OpSame:   test(equal),
		api.OpPick:   choice,
		api.OpEqual:  test(equal),
		api.OpLess:   test(less),
	}
}
