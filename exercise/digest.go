package exercise

import (
	"strconv"
	"strings"

	"assessor/api"
)

const (
	fnvBasis = 14695981039346656037
	fnvPrime = 1099511628211
)

// Digest returns the digest of an exercise and the source of a submission.
func Digest(x api.Exercise, source string) uint64 {
	var b strings.Builder
	text := func(s string) { b.WriteString(strconv.Itoa(len(s)) + ":" + s) }
	number := func(n int) { b.WriteString(strconv.Itoa(n) + ",") }
	for _, s := range []string{x.Source, x.Entry, x.Accepts, x.Given} {
		text(s)
	}
	model := 0
	if x.Model {
		model = 1
	}
	for _, n := range []int{model, x.Bounds.Width, x.Bounds.Loops, len(x.Ranges)} {
		number(n)
	}
	for _, r := range x.Ranges {
		number(r.Lo)
		number(r.Hi)
	}
	text(source)
	return sum(b.String())
}

// sum returns the sum FNV-1a of a text.
func sum(s string) uint64 {
	h := uint64(fnvBasis)
	for i := range len(s) {
		h = (h ^ uint64(s[i])) * fnvPrime
	}
	return h
}
