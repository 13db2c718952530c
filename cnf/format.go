package cnf

import (
	"iter"
	"strconv"
	"strings"

	"assessor/api"
)

// Format returns the text of a formula.
func Format(f api.Formula) string {
	if !Valid(f) {
		return ""
	}
	var b strings.Builder
	b.WriteString("p cnf " + strconv.Itoa(f.Variables) + " " + strconv.Itoa(len(f.Clauses)) + "\n")
	for _, clause := range f.Clauses {
		for _, x := range clause {
			b.WriteString(strconv.Itoa(x))
			b.WriteByte(' ')
		}
		b.WriteString("0\n")
	}
	return b.String()
}

// Parse returns the formula with a text.
func Parse(text string) (api.Formula, api.Errno) {
	var f api.Formula
	count := -1 // of clauses; negative before the first line
	for line, ended := range lines(text) {
		ok := false
		if count < 0 {
			f.Variables, count, ok = header(line)
		} else {
			var clause []int
			clause, ok = literals(line)
			f.Clauses = append(f.Clauses, clause)
		}
		if !ok || !ended {
			return api.Formula{}, api.ErrSyntax
		}
	}
	if len(f.Clauses) != count || !Valid(f) {
		return api.Formula{}, api.ErrSyntax
	}
	return f, api.OK
}

// lines yields the lines of a text without the bytes 10 at their ends, and whether these are there.
func lines(text string) iter.Seq2[string, bool] {
	return func(yield func(string, bool) bool) {
		for rest := text; rest != ""; {
			line, behind, ended := strings.Cut(rest, "\n")
			if !yield(line, ended) {
				return
			}
			rest = behind
		}
	}
}

// header returns the numbers of variables and clauses in the first line of a text.
func header(line string) (int, int, bool) {
	numbers, found := strings.CutPrefix(line, "p cnf ")
	l, ok := words(numbers)
	if !found || !ok || len(l) != 2 || l[1] < 0 {
		return 0, 0, false
	}
	return l[0], l[1], true
}

// literals returns the numbers in a line of a clause before the 0 at its end.
func literals(line string) ([]int, bool) {
	l, ok := words(line)
	if !ok || l[len(l)-1] != 0 {
		return nil, false
	}
	return l[:len(l)-1], true
}

// words returns the numbers in a line that are separated by single blanks.
func words(line string) ([]int, bool) {
	var l []int
	for word := range strings.SplitSeq(line, " ") {
		n, e := strconv.Atoi(word)
		// Other ways to write a number, with a sign or zeros in front of it, are none in a text.
		if e != nil || strconv.Itoa(n) != word {
			return nil, false
		}
		l = append(l, n)
	}
	return l, true
}
