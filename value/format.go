package value

import (
	"slices"
	"strconv"
	"strings"

	"assessor/api"
	"assessor/lexer"
	"assessor/types"
)

// brackets returns what stands in front of the scalars in the text of a value of a type, and behind them.
func brackets(t api.Type) (string, string) {
	switch t.Kind {
	case api.TypeArray:
		return "[", "]"
	case api.TypeRecord:
		return t.Record + "(", ")"
	}
	return "", ""
}

// Format returns the text of a value.
func Format(t api.Type, records []api.Record, l []int) string {
	scalars := types.Scalars(records, t)
	if !types.Valid(t, records) || len(scalars) != len(l) {
		return ""
	}
	var parts []string
	for i, s := range scalars {
		part := strconv.Itoa(l[i])
		if s.Kind == api.TypeBool {
			part = strconv.FormatBool(l[i] != 0)
		}
		parts = append(parts, part)
	}
	front, back := brackets(t)
	return front + strings.Join(parts, ", ") + back
}

// Parse returns the value with a text.
func Parse(width int, t api.Type, records []api.Record, text string) ([]int, api.Errno) {
	switch {
	case !possible(width):
		return nil, api.ErrRange
	case !types.Valid(t, records):
		return nil, api.ErrType
	case len(text) > api.MaxSource:
		return nil, api.ErrTooLarge
	}
	l, ok := read(t, types.Scalars(records, t), text)
	switch {
	case !ok:
		return nil, api.ErrSyntax
	case !Valid(width, t, records, l):
		return nil, api.ErrRange
	}
	return l, api.OK
}

// read returns the scalars of a text, whose ints may be of any size, and false if it is not the text of a value.
func read(t api.Type, scalars []api.Type, text string) ([]int, bool) {
	front, back := brackets(t)
	// The name of a record may be anything, so that it may be more than one token, or too long for a text.
	opening, ok := split(front)
	if !ok {
		return nil, false
	}
	closing, _ := split(back)
	words, _ := split(text)
	take, scalar, ended := reader(words)
	if !take(opening...) {
		return nil, false
	}
	var l []int
	for i, s := range scalars {
		if i > 0 && !take(",") {
			return nil, false
		}
		n, ok := scalar(s.Kind == api.TypeBool)
		if !ok {
			return nil, false
		}
		l = append(l, n)
	}
	return l, take(closing...) && ended()
}

// split returns the words of the tokens of a text.
func split(s string) ([]string, bool) {
	l, e := lexer.Scan(s)
	if e != api.OK {
		return nil, false
	}
	return lexer.Words(s, l[:len(l)-1]), true
}

// reader returns functions that read words, from the first one on, and share the place: one takes words if they are next, one takes a scalar, and one tells whether all words are taken.
func reader(words []string) (func(...string) bool, func(bool) (int, bool), func() bool) {
	at := 0
	ended := func() bool { return at == len(words) }
	take := func(l ...string) bool {
		if at+len(l) > len(words) || !slices.Equal(words[at:at+len(l)], l) {
			return false
		}
		at += len(l)
		return true
	}
	scalar := func(truth bool) (int, bool) {
		if truth {
			if take("false") {
				return 0, true
			}
			return 1, take("true")
		}
		sign := 1
		if take("-") {
			sign = -1
		}
		if ended() {
			return 0, false
		}
		n, ok := lexer.Number(words[at])
		at++
		return sign * n, ok
	}
	return take, scalar, ended
}
