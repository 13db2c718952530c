package parser

import (
	"slices"
	"strings"

	"assessor/api"
	"assessor/lexer"
)

// parser goes through the tokens of a text; at is the index of the next one.
type parser struct {
	tokens []api.Token
	words  []string
	at     int
	found  []api.Diagnostic
}

func newParser(s string, tokens []api.Token) *parser {
	wrong := func(t api.Token) bool { return t.Kind == api.TokenWrong }
	l := slices.DeleteFunc(slices.Clone(tokens), wrong)
	return &parser{tokens: l, words: lexer.Words(s, l)}
}

// kind returns the kind of the next token.
func (p *parser) kind() int { return p.tokens[p.at].Kind }

// is reports whether the next token is one of some words.
func (p *parser) is(words ...string) bool { return slices.Contains(words, p.words[p.at]) }

// next reads the next token.
func (p *parser) next() string {
	word := p.words[p.at]
	p.at++
	return word
}

// take reads the next token if it is a word, and reports that.
func (p *parser) take(word string) bool {
	if !p.is(word) {
		return false
	}
	p.at++
	return true
}

// demand reads a word, or reports that it is missing.
func (p *parser) demand(word string) {
	if !p.take(word) {
		p.report(api.DiagExpected, word)
	}
}

// name reads a name; it is empty if it is missing.
func (p *parser) name() string {
	if p.kind() != api.TokenName {
		p.report(api.DiagExpected, "name")
		return ""
	}
	return p.next()
}

// number reads a number and returns it without leading zeros; it is empty if it is missing.
func (p *parser) number() string {
	if p.kind() != api.TokenNumber {
		p.report(api.DiagExpected, "number")
		return ""
	}
	digits := p.next()
	if plain := strings.TrimLeft(digits, "0"); plain != "" {
		return plain
	}
	return "0"
}

// problem returns a diagnostic at the next token.
func (p *parser) problem(code int, text string) api.Diagnostic {
	t := p.tokens[p.at]
	return api.Diagnostic{Code: code, At: t.At, End: t.End, Text: text}
}

// report adds a problem at the next token, unless one was found there before: it would only be a consequence of that.
func (p *parser) report(code int, text string) {
	d := p.problem(code, text)
	if len(p.found) == 0 || p.found[len(p.found)-1].At != d.At {
		p.found = append(p.found, d)
	}
}

// node returns a node for which the tokens from the index first on were read.
func (p *parser) node(kind int, text string, first int, kids ...api.Node) api.Node {
	n := api.Node{Kind: kind, Text: text, Kids: kids}
	if p.at > 0 {
		// This is also right if no token was read: then the last one is that before the node.
		n.End = p.tokens[p.at-1].End
	}
	n.At = n.End
	if first < p.at {
		n.At = p.tokens[first].At
	}
	if len(kids) > 0 {
		// A missing first kid stands directly behind the token before it, and so in front of the first token of its node.
		n.At = min(n.At, kids[0].At)
	}
	return n
}

// none returns the node for an optional part that is not there.
func (p *parser) none() api.Node { return p.node(api.NodeNone, "", p.at) }
