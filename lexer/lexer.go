// Package lexer is layer 2: it splits programs into tokens. See shared/doc/02-lexer.md.
package lexer

import (
	"strings"

	"assessor/api"
)

// Scan returns the tokens of a text, the end of the text last.
func Scan(s string) ([]api.Token, api.Errno) {
	if len(s) > api.MaxSource {
		return nil, api.ErrTooLarge
	}
	sc := newScanner(s)
	var l []api.Token
	for {
		t := sc.next()
		l = append(l, t)
		if t.Kind == api.TokenEnd {
			return l, api.OK
		}
	}
}

// Join returns the text of tokens.
func Join(s string, l []api.Token) string {
	if !fit(s, l) {
		return ""
	}
	var b strings.Builder
	for _, t := range l {
		b.WriteString(s[t.From:t.End])
	}
	return b.String()
}

// Words returns the texts of tokens, without what stands before them.
func Words(s string, l []api.Token) []string {
	if !fit(s, l) {
		return nil
	}
	words := make([]string, 0, len(l))
	for _, t := range l {
		words = append(words, s[t.At:t.End])
	}
	return words
}

// fit reports whether tokens are within a text, and not more than a program can have.
func fit(s string, l []api.Token) bool {
	if len(l) > api.MaxSource+1 {
		return false
	}
	for _, t := range l {
		if t.From < 0 || t.At < t.From || t.End < t.At || t.End > len(s) {
			return false
		}
	}
	return true
}

// Keyword reports whether a word is a keyword.
func Keyword(s string) bool { return keywords()[s] }

// keywords returns the set of the keywords.
func keywords() map[string]bool {
	return map[string]bool{
		"record": true, "proc": true, "var": true,
		"if": true, "else": true, "while": true, "for": true, "to": true,
		"return": true, "assert": true,
		"and": true, "or": true, "not": true,
		"true": true, "false": true,
		"int": true, "bool": true, "len": true,
	}
}

// Name reports whether a string is a name.
func Name(s string) bool {
	if len(s) > api.MaxName {
		return false
	}
	t := newScanner(s).next()
	return t.Kind == api.TokenName && covers(t, 0, len(s))
}

// Number returns the number that digits are.
func Number(s string) (int, bool) {
	if len(s) < 1 || len(s) > 9 {
		return 0, false
	}
	n := 0
	for i := 0; i < len(s); i++ {
		if !digit(s[i]) {
			return 0, false
		}
		n = 10*n + int(s[i]-'0')
	}
	return n, true
}

// Space returns what must stand between two words so that they remain two tokens: a blank or nothing.
func Space(a, b string) string {
	// Only the first two tokens are needed: if they are a and b, nothing is left behind them.
	sc := newScanner(a + b)
	first, second := sc.next(), sc.next()
	if covers(first, 0, len(a)) && covers(second, len(a), len(a)+len(b)) {
		return ""
	}
	return " "
}

// covers reports whether a token stands in exactly the bytes from at to end, and there are any.
func covers(t api.Token, at, end int) bool { return at < end && t.At == at && t.End == end }
