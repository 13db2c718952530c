package certificate

import (
	"strconv"
	"strings"

	"assessor/api"
	"assessor/proof"
)

// most is the greatest number that a certificate can contain.
const most = 999999999

// header returns the first line of a certificate.
func header(digest uint64, variables, clauses int) string {
	digits := strconv.FormatUint(digest, 16)
	digits = strings.Repeat("0", 16-len(digits)) + digits
	return "certificate " + digits + " " + strconv.Itoa(variables) + " " + strconv.Itoa(clauses) + "\n"
}

// Parse returns what the text of a certificate says.
func Parse(text string) (api.Certificate, api.Errno) {
	var c api.Certificate
	end := strings.IndexByte(text, '\n') + 1
	words := strings.Split(strings.TrimSuffix(text[:end], "\n"), " ")
	if len(words) != 4 {
		return c, api.ErrSyntax
	}
	digest, _ := strconv.ParseUint(words[1], 16, 64)
	variables, _ := strconv.Atoi(words[2])
	clauses, _ := strconv.Atoi(words[3])
	// Whatever is written otherwise, with signs or other zeros, would not be written so again.
	if !isNumber(variables) || !isNumber(clauses) || header(digest, variables, clauses) != text[:end] {
		return c, api.ErrSyntax
	}
	steps, e := proof.Parse(text[end:])
	if e != api.OK {
		return c, api.ErrSyntax
	}
	return api.Certificate{Digest: digest, Variables: variables, Clauses: clauses, Proof: steps}, api.OK
}

func isNumber(n int) bool { return 0 <= n && n <= most }
