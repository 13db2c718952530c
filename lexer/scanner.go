package lexer

import (
	"strings"

	"assessor/api"
)

// scanner finds the tokens of a text one after the other; at is the end of the last one.
type scanner struct {
	text     string
	keywords map[string]bool
	at       int
}

func newScanner(s string) *scanner { return &scanner{text: s, keywords: keywords()} }

// next returns the next token, and goes behind it. At the end of the text it is TokenEnd.
func (sc *scanner) next() api.Token {
	from := sc.at
	at := sc.blank(from)
	kind, end := sc.token(at)
	sc.at = end
	return api.Token{Kind: kind, From: from, At: at, End: end}
}

// blank returns the end of the white space and the comments from an offset on.
func (sc *scanner) blank(at int) int {
	for {
		at = sc.while(at, func(i int) bool { return white(sc.text[i]) })
		if at == len(sc.text) || sc.text[at] != '#' {
			return at
		}
		at = sc.while(at, func(i int) bool { return sc.text[i] != '\n' })
	}
}

// token returns the kind and the end of the token that begins at an offset.
func (sc *scanner) token(at int) (int, int) {
	if at == len(sc.text) {
		return api.TokenEnd, at
	}
	switch {
	case letter(sc.text[at]):
		end := sc.while(at, func(i int) bool { return inName(sc.text[i]) })
		if sc.keywords[sc.text[at:end]] {
			return api.TokenKeyword, end
		}
		return api.TokenName, end
	case digit(sc.text[at]):
		return api.TokenNumber, sc.while(at, func(i int) bool { return digit(sc.text[i]) })
	}
	if n := sc.symbol(at); n > 0 {
		return api.TokenSymbol, at + n
	}
	return api.TokenWrong, sc.while(at, sc.wrong)
}

// while returns the end of the offsets, from at on, for which a predicate holds.
func (sc *scanner) while(at int, holds func(int) bool) int {
	for at < len(sc.text) && holds(at) {
		at++
	}
	return at
}

// symbol returns the length of the symbol at an offset, 0 if there is none.
func (sc *scanner) symbol(at int) int {
	switch sc.text[at:min(at+2, len(sc.text))] {
	case "==", "!=", "<=", ">=":
		return 2
	}
	if strings.IndexByte("<>=+-*/%(){}[],;:.", sc.text[at]) >= 0 {
		return 1
	}
	return 0
}

// wrong reports whether the byte at an offset belongs to no other token, no comment and no white space.
func (sc *scanner) wrong(at int) bool {
	b := sc.text[at]
	return !white(b) && b != '#' && !letter(b) && !digit(b) && sc.symbol(at) == 0
}

func white(b byte) bool { return b == '\t' || b == '\n' || b == '\r' || b == ' ' }

func letter(b byte) bool { return 'a' <= b && b <= 'z' }

func digit(b byte) bool { return '0' <= b && b <= '9' }

func inName(b byte) bool { return letter(b) || digit(b) || b == '_' }
