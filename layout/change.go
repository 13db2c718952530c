package layout

import (
	"strings"

	"assessor/api"
	"assessor/lexer"
	"assessor/printer"
	"assessor/text"
	"assessor/tree"
)

// Indent returns the white space with which the line of an offset begins.
func Indent(s string, at int) string {
	number, _ := text.Position(s, at)
	line := text.Line(s, number)
	return line[:len(line)-len(strings.TrimLeft(line, "\t "))]
}

// lineStart returns the offset of the beginning of the line of an offset.
func lineStart(s string, at int) int {
	_, column := text.Position(s, at)
	return at - column + 1
}

// beginsLine reports whether only white space stands before an offset in its line.
func beginsLine(s string, at int) bool {
	return strings.Trim(s[lineStart(s, at):at], "\t\r ") == ""
}

// newText returns the text of an expression or a statement that takes the place of the node with a path.
func (src *source) newText(path []int, old, by api.Node) (string, api.Errno) {
	if tree.Statement(by) {
		return src.statement(old.At, by)
	}
	s, e := printer.Expression(by)
	last := len(path) - 1
	parent, _ := tree.Get(src.tree, path[:last]...)
	if printer.Parentheses(parent, path[last], by) && !src.enclosed(old) {
		s = "(" + s + ")"
	}
	return s, e
}

// enclosed reports whether an operand stands in parentheses.
func (src *source) enclosed(n api.Node) bool {
	first, behind := src.index(n.At), src.index(n.End)
	return src.words[first-1] == "(" && src.words[behind] == ")"
}

// statement returns the text of a statement that begins in the line of an offset.
func (src *source) statement(at int, n api.Node) (string, api.Errno) {
	s, e := printer.Statement(n, 0)
	return strings.ReplaceAll(s, "\n", "\n"+Indent(src.text, at)), e
}

// replacement returns the replacement of bytes by a text, with blanks where this and a token beside it would not remain two.
func (src *source) replacement(at, end int, s string) api.Replacement {
	before, behind := src.beside(at, end)
	tokens, _ := lexer.Scan(s)
	words := lexer.Words(s, tokens)
	if before != "" && len(words) > 1 {
		s = lexer.Space(before, words[0]) + s
	}
	if behind != "" && len(words) > 1 {
		// The last one of the words is the end of the text.
		s += lexer.Space(words[len(words)-2], behind)
	}
	return api.Replacement{At: at, End: end, Text: s}
}

// beside returns the words of the tokens that stand directly before and behind some bytes; empty if there are none.
func (src *source) beside(at, end int) (string, string) {
	before, behind := "", ""
	if i := src.index(at); i > 0 && src.tokens[i-1].End == at {
		before = src.words[i-1]
	}
	if i := src.index(end); src.tokens[i].At == end {
		behind = src.words[i]
	}
	return before, behind
}

// insertion returns the replacement that inserts a statement in a block.
func (src *source) insertion(block api.Node, index int, by api.Node) (api.Replacement, api.Errno) {
	insert := func(at int, like api.Node, before, behind string) (api.Replacement, api.Errno) {
		s, e := src.statement(like.At, by)
		return api.Replacement{At: at, End: at, Text: before + s + behind}, e
	}
	switch {
	case len(block.Kids) == 0:
		return insert(block.At+len("{"), block, " ", "")
	case index == len(block.Kids):
		last := block.Kids[index-1]
		return insert(last.End, last, src.between(last), "")
	}
	next := block.Kids[index]
	return insert(next.At, next, "", src.between(next))
}

// between returns what stands between a statement and a new one beside it.
func (src *source) between(n api.Node) string {
	if beginsLine(src.text, n.At) {
		return "\n" + Indent(src.text, n.At)
	}
	return " "
}

// deletion returns the replacement that deletes a statement, with its lines if nothing else stands there.
func (src *source) deletion(n api.Node) api.Replacement {
	rest := strings.TrimLeft(src.text[n.End:], "\t\r ")
	if !beginsLine(src.text, n.At) || rest != "" && rest[0] != '\n' {
		return api.Replacement{At: n.At, End: n.End}
	}
	end := len(src.text) - len(strings.TrimPrefix(rest, "\n"))
	return api.Replacement{At: lineStart(src.text, n.At), End: end}
}
