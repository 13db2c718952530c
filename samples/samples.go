// Package samples makes random programs, and inputs for them, for the tests of the layers.
package samples

import (
	"strings"

	"assessor/api"
	"assessor/lexer"
	"assessor/parser"
	"assessor/printer"
	"assessor/types"
	"assessor/value"
)

// Source is a source of random numbers from 0 to n - 1, such as one of math/rand.
type Source interface{ Intn(n int) int }

// Program returns the tree of a program whose types are all right, with declarations in any order, and its text; the tree and the text are zero if it is too long.
func Program(r Source) (api.Node, string) {
	w := writer{source: r}
	return Text(w.program())
}

// Calm returns a program as Program does, of whose runs fewer end with a fault, and more depend on the input.
func Calm(r Source) (api.Node, string) {
	w := writer{source: r, calm: true}
	return Text(w.program())
}

// Text returns a tree with the places of its canonical text, and this text.
func Text(n api.Node) (api.Node, string) {
	s, e := printer.Format(n)
	if e != api.OK {
		return api.Node{}, ""
	}
	n, _, _ = parser.Parse(s)
	return n, s
}

// Scalars returns values of some variables, one behind the other.
func Scalars(r Source, records []api.Record, width int, l ...api.Variable) []int {
	var all []int
	for _, v := range l {
		for _, t := range types.Scalars(records, v.Type) {
			if t.Kind == api.TypeBool {
				all = append(all, r.Intn(2))
			} else {
				// Small ints are often indices, and divisors that are 0.
				all = append(all, value.Wrap(width, []int{0, 1, 2, r.Intn(256)}[r.Intn(4)]))
			}
		}
	}
	return all
}

// Spread returns a text with white space and comments in front of each token, and behind the last one.
func Spread(r Source, s string) string {
	tokens, _ := lexer.Scan(s)
	var b strings.Builder
	for _, word := range lexer.Words(s, tokens) {
		b.WriteString([]string{" ", "\n", "\t ", " #\n", "\r\n"}[r.Intn(5)])
		b.WriteString(word)
	}
	b.WriteString("# end")
	return b.String()
}
