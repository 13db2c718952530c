// Package text is layer 1: it computes with the lines and bytes of a text. See shared/doc/01-text.md.
package text

import (
	"strings"

	"assessor/api"
)

// Lines returns the offset of the beginning of each line.
func Lines(s string) []int {
	l := []int{0}
	for i := 0; i < len(s); i++ {
		if s[i] == '\n' {
			l = append(l, i+1)
		}
	}
	return l
}

// Position returns the line and the column of an offset, both from 1 on; 0 and 0 if it is no offset of the text.
func Position(s string, at int) (int, int) {
	if at < 0 || at > len(s) {
		return 0, 0
	}
	before := s[:at]
	// Without a byte 10 before it, LastIndexByte is -1, which is just what makes the column count from 1 on.
	return 1 + strings.Count(before, "\n"), at - strings.LastIndexByte(before, '\n')
}

// Offset returns the offset of a line and a column, and whether there is one.
func Offset(s string, line, column int) (int, bool) {
	from, end, ok := bounds(s, line)
	if !ok || column < 1 || column > end-from+1 {
		return 0, false
	}
	return from + column - 1, true
}

// Line returns the text of a line without its end.
func Line(s string, line int) string {
	from, end, ok := bounds(s, line)
	if !ok {
		return ""
	}
	if end == len(s) {
		// No byte 10 ends this line, so a byte 13 here belongs to its text.
		return s[from:]
	}
	return strings.TrimSuffix(s[from:end], "\r")
}

// bounds returns the offset of the beginning of a line, that of the byte 10 at its end (or of the end of the text), and whether the line exists.
func bounds(s string, line int) (int, int, bool) {
	starts := Lines(s)
	if line < 1 || line > len(starts) {
		return 0, 0, false
	}
	end := len(s)
	if line < len(starts) {
		end = starts[line] - 1
	}
	return starts[line-1], end, true
}

// Apply returns a text in which spans are replaced.
func Apply(s string, l ...api.Replacement) (string, api.Errno) {
	if e := check(s, l); e != api.OK {
		return "", e
	}
	var b strings.Builder
	done := 0
	copyUpTo := func(end int) {
		b.WriteString(s[done:end])
	}
	for _, r := range l {
		copyUpTo(r.At)
		b.WriteString(r.Text)
		done = r.End
	}
	copyUpTo(len(s))
	return b.String(), api.OK
}

// check returns the error of replacements of a text.
func check(s string, l []api.Replacement) api.Errno {
	size, last := len(s), 0
	for _, r := range l {
		if r.At < 0 || r.End < r.At || r.End > len(s) {
			return api.ErrRange
		}
		if r.At < last {
			return api.ErrArg
		}
		last = r.End
		size += growth(r)
	}
	if size > api.MaxText {
		return api.ErrTooLarge
	}
	return api.OK
}

// growth returns by how much a replacement changes the length of a text.
func growth(r api.Replacement) int { return len(r.Text) - (r.End - r.At) }

// Move returns where an offset of a text is after replacements; -1 if the offset or the spans are not valid.
func Move(l []api.Replacement, at int) int {
	if at < 0 || at > api.MaxText || !ordered(l) {
		return -1
	}
	change := 0
	for _, r := range l {
		if r.At <= at && at < r.End {
			return r.At + change + min(at-r.At, len(r.Text))
		}
		if r.End <= at {
			change += growth(r)
		}
	}
	return at + change
}

// ordered reports whether spans are in order within the longest text that there can be.
func ordered(l []api.Replacement) bool {
	last := 0
	for _, r := range l {
		if r.At < last || r.End < r.At || r.End > api.MaxText {
			return false
		}
		last = r.End
	}
	return true
}

// Invert returns the replacements that restore a text after replacements.
func Invert(s string, l ...api.Replacement) ([]api.Replacement, api.Errno) {
	if e := check(s, l); e != api.OK {
		return nil, e
	}
	back := make([]api.Replacement, 0, len(l))
	change := 0
	for _, r := range l {
		at := r.At + change
		back = append(back, api.Replacement{At: at, End: at + len(r.Text), Text: s[r.At:r.End]})
		change += growth(r)
	}
	return back, api.OK
}

// Difference returns the shortest replacement that turns a text into another one.
func Difference(a, b string) api.Replacement {
	at := 0
	for at < len(a) && at < len(b) && a[at] == b[at] {
		at++
	}
	// The common end is one of what is left only: it must not reach into the common beginning.
	end, other := len(a), len(b)
	for end > at && other > at && a[end-1] == b[other-1] {
		end, other = end-1, other-1
	}
	return api.Replacement{At: at, End: end, Text: b[at:other]}
}
