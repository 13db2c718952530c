package proof

import (
	"slices"
	"strconv"
	"strings"

	"assessor/api"
	"assessor/cnf"
)

// Format returns the text of a proof.
func Format(proof [][]int) string {
	if !isProof(api.MaxVariables, proof) {
		return ""
	}
	var b strings.Builder
	for l := range slices.Chunk(proof, api.MaxClauses) {
		// But for its first line, the text of a formula is that of its clauses as steps.
		text := cnf.Format(api.Formula{Variables: api.MaxVariables, Clauses: l})
		_, lines, _ := strings.Cut(text, "\n")
		b.WriteString(lines)
	}
	return b.String()
}

// Parse returns the proof with a text.
func Parse(text string) ([][]int, api.Errno) {
	header := "p cnf " + strconv.Itoa(api.MaxVariables) + " 1\n"
	var proof [][]int
	literals := 0
	for line := range strings.Lines(text) {
		f, e := cnf.Parse(header + line)
		if e != api.OK {
			return nil, api.ErrSyntax
		}
		proof = append(proof, f.Clauses...)
		literals += len(f.Clauses[0])
	}
	if literals > api.MaxProof {
		return nil, api.ErrSyntax
	}
	return proof, api.OK
}
