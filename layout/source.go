package layout

import (
	"cmp"
	"iter"
	"slices"

	"assessor/api"
	"assessor/lexer"
	"assessor/parser"
	"assessor/text"
	"assessor/tree"
)

// source is a text with its tree and its tokens; broken tells whether it has diagnostics.
type source struct {
	text   string
	tree   api.Node
	tokens []api.Token
	words  []string
	broken bool
}

// equal reports whether two trees are equal, also in their places.
func equal(a, b api.Node) bool {
	return a.Kind == b.Kind && a.Text == b.Text && a.At == b.At && a.End == b.End && slices.EqualFunc(a.Kids, b.Kids, equal)
}

// walk goes through the tokens in the order of the text, each with the number of the node that owns it.
func (src *source) walk() iter.Seq2[int, api.Token] {
	return func(yield func(int, api.Token) bool) {
		root := src.tree
		// So that the end of the text, which has no bytes, lies in the program.
		root.End++
		w := &walker{rest: src.tokens, yield: yield}
		w.visit(root)
	}
}

// walker goes through a tree and its tokens at once: number is that of the next node, rest are the tokens that were not yet yielded.
type walker struct {
	number int
	rest   []api.Token
	yield  func(int, api.Token) bool
}

// visit yields the tokens of a node and of all that is below it, and reports whether more are wanted.
func (w *walker) visit(n api.Node) bool {
	number := w.number
	w.number++
	for _, k := range n.Kids {
		if !w.upTo(k.At, number) || !w.visit(k) {
			return false
		}
	}
	return w.upTo(n.End, number)
}

// upTo yields the tokens that begin before an offset, as those of one node.
func (w *walker) upTo(end, number int) bool {
	for len(w.rest) > 0 && w.rest[0].At < end {
		t := w.rest[0]
		w.rest = w.rest[1:]
		if !w.yield(number, t) {
			return false
		}
	}
	return true
}

// own returns the own tokens of the node with a number.
func (src *source) own(number int) []api.Token {
	var l []api.Token
	for owner, t := range src.walk() {
		if owner == number {
			l = append(l, t)
		}
	}
	return l
}

// word returns the token that is the Text of a node.
func (src *source) word(path []int, n api.Node) api.Token {
	number, _ := tree.Number(src.tree, path...)
	for owner, t := range src.walk() {
		if owner == number && sameWord(src.text[t.At:t.End], n.Text) {
			return t
		}
	}
	return api.Token{}
}

// sameWord reports whether a word is a Text; that of a number has no leading zeros.
func sameWord(word, s string) bool {
	a, digits := lexer.Number(word)
	b, number := lexer.Number(s)
	return word == s || digits && number && a == b
}

// with returns the tree with another node in the place of that with a path, and whether it has the shape of a program. It is not for the root.
func (src *source) with(path []int, by api.Node) (api.Node, bool) {
	last := len(path) - 1
	changed, e := tree.Replace(src.tree, path[:last], path[last], path[last]+1, by)
	return changed, e == api.OK && tree.Valid(changed)
}

// becomes reports whether the text is read as a tree after a replacement.
func (src *source) becomes(n api.Node, r api.Replacement) bool {
	s, e := text.Apply(src.text, r)
	if e != api.OK {
		return false
	}
	changed, problems, e := parser.Parse(s)
	return e == api.OK && len(problems) == 0 && tree.Same(changed, n)
}

// index returns the index of the first token that begins at an offset or behind it.
func (src *source) index(at int) int {
	i, _ := slices.BinarySearchFunc(src.tokens, at, func(t api.Token, at int) int { return cmp.Compare(t.At, at) })
	return i
}
