package cnf_test

import (
	"math/rand"
	"slices"
	"strconv"
	"strings"
	"testing"

	"assessor/api"
	"assessor/cnf"
)

// P26.4

func TestFormat(t *testing.T) {
	for i, x := range []struct {
		f    api.Formula
		text string
	}{
		{formula(0), "p cnf 0 0\n"}, {formula(3), "p cnf 3 0\n"}, {formula(0, nil), "p cnf 0 1\n0\n"}, {formula(4, []int{-1}, []int{2, -4}, []int{-3, -4}, []int{-2, 3, 4}, []int{4}), "p cnf 4 5\n-1 0\n2 -4 0\n-3 -4 0\n-2 3 4 0\n4 0\n"}, {formula(65536, []int{-10, 65536}, nil, []int{-65536}, nil), "p cnf 65536 4\n-10 65536 0\n0\n-65536 0\n0\n"},
	} {
		if s := cnf.Format(x.f); s != x.text {
			t.Errorf("%d %q", i, s)
		}
		if f, e := cnf.Parse(x.text); !equal(f, x.f) || e != api.OK {
			t.Error(i, f, e)
		}
	}
	for i, f := range wrongFormulas() {
		if s := cnf.Format(f); s != "" {
			t.Errorf("%d %.30q", i, s)
		}
	}
}

func TestParse(t *testing.T) {
	for _, text := range []string{
		"", "\n", "p", "p cnf", "p cnf \n", "p cnf 3\n", "p cnf 3 \n", "p cnf 3 0", "p cnf 3 0 \n", "p cnf 3 0 0\n", " p cnf 3 0\n", "p  cnf 3 0\n", "p cnf  3 0\n", "p cnf 3  0\n", "P cnf 3 0\n", "p CNF 3 0\n", "p cnf3 0\n", "pcnf 3 0\n", "p cnf 3 0\r\n", "p\tcnf 3 0\n", "p cnf 3\t0\n", "p dnf 3 0\n", "cnf 3 0\n", "3 0\n", "\np cnf 3 0\n", "p cnf 3 0\n\n", "p cnf 3 0\nc\n", "c\np cnf 3 0\n",
		// Numbers in other forms, or out of their ranges.
		"p cnf +3 0\n", "p cnf 03 0\n", "p cnf 3 00\n", "p cnf 3 -0\n", "p cnf -0 0\n", "p cnf 3 -1\n", "p cnf -1 0\n", "p cnf 65537 0\n", "p cnf 3.0 0\n", "p cnf 0x3 0\n", "p cnf 1_0 0\n", "p cnf x 0\n", "p cnf 3 x\n", "p cnf 99999999999999999999 0\n", "p cnf 3 99999999999999999999\n", "p cnf 3 262145\n", "p cnf 3 -9223372036854775808\n", "p cnf 3 -1\np cnf 3 0\n", "p cnf 3 0\np cnf 3 0\n", "p cnf 3 1\np cnf 3 0\n",
		// Numbers of clauses that are not those of the lines.
		"p cnf 3 1\n", "p cnf 3 0\n0\n", "p cnf 3 0\n1 0\n", "p cnf 3 1\n1 0\n2 0\n", "p cnf 3 2\n1 0\n", "p cnf 3 1\n1 0\n\n", "p cnf 3 2\n1 0\n\n",
		// Clauses in other forms.
		"p cnf 3 1\n1\n", "p cnf 3 1\n1 0", "p cnf 3 1\n1 0 \n", "p cnf 3 1\n 1 0\n", "p cnf 3 1\n1  0\n", "p cnf 3 1\n1 2  0\n", "p cnf 3 1\n1 -0\n", "p cnf 3 1\n1 00\n", "p cnf 3 1\n+1 0\n", "p cnf 3 1\n01 0\n", "p cnf 3 1\n-01 0\n", "p cnf 3 1\n- 1 0\n", "p cnf 3 1\n--1 0\n", "p cnf 3 1\n1 0\r\n", "p cnf 3 1\n1\t0\n", "p cnf 3 1\n1, 0\n", "p cnf 3 1\n1 2\n0\n", "p cnf 3 2\n1 0 2 0\n", "p cnf 3 2\n1 0 2 0\n3 0\n", "p cnf 3 1\n\n", "p cnf 3 1\n1 x 0\n", "p cnf 3 1\n ", "p cnf 3 1\n \n", "p cnf 3 1\n1 0\x00\n", "p cnf 3 1\n１ 0\n",
		// Clauses that are not normal, or have other variables.
		"p cnf 3 1\n0 0\n", "p cnf 3 1\n1 0 0\n", "p cnf 3 1\n0 1 0\n", "p cnf 3 1\n1 1 0\n", "p cnf 3 1\n1 -1 0\n", "p cnf 3 1\n2 1 0\n", "p cnf 3 1\n4 0\n", "p cnf 3 1\n-4 0\n", "p cnf 0 1\n1 0\n", "p cnf 3 1\n99999999999999999999 0\n", "p cnf 3 1\n-9223372036854775808 0\n", "p cnf 3 1\n1 4294967298 0\n",
	} {
		if f, e := cnf.Parse(text); !equal(f, formula(0)) || e != api.ErrSyntax {
			t.Errorf("%q %v %v", text, f, e)
		}
	}
}

func TestTextsOfLargeFormulas(t *testing.T) {
	f := api.Formula{Variables: api.MaxVariables}
	for i := range api.MaxClauses {
		f.Clauses = append(f.Clauses, []int{-i%api.MaxVariables - 1})
	}
	text := cnf.Format(f)
	if strings.Count(text, "\n") != api.MaxClauses+1 {
		t.Error(strings.Count(text, "\n"))
	}
	if again, e := cnf.Parse(text); !equal(again, f) || e != api.OK {
		t.Error(len(again.Clauses), e)
	}
	text = strings.Replace(text, " 262144\n", " 262145\n", 1) + "1 0\n"
	if again, e := cnf.Parse(text); !equal(again, formula(0)) || e != api.ErrSyntax {
		t.Error(len(again.Clauses), e)
	}
}

// written returns the text of a formula by its definition.
func written(f api.Formula) string {
	l := []string{"p cnf " + strconv.Itoa(f.Variables) + " " + strconv.Itoa(len(f.Clauses)) + "\n"}
	for _, clause := range f.Clauses {
		var words []string
		for _, x := range append(slices.Clone(clause), 0) {
			words = append(words, strconv.Itoa(x))
		}
		l = append(l, strings.Join(words, " ")+"\n")
	}
	return strings.Join(l, "")
}

// spoiled returns a text with a random change.
func spoiled(r *rand.Rand, text string) string {
	at := r.Intn(len(text))
	end := min(len(text), at+r.Intn(3))
	parts := []string{"", " ", "\n", "0", "-", "1", "3", "0\n", " 0", "p", "+", "x"}
	return text[:at] + parts[r.Intn(len(parts))] + text[end:]
}

// P26.5

func TestRandomTexts(t *testing.T) {
	r := rand.New(rand.NewSource(1))
	valid, other := 0, 0
	for range 20000 {
		f := random(r, r.Intn(6), r.Intn(5))
		text := cnf.Format(f)
		if text != written(f) {
			t.Fatal(f, text)
		}
		if again, e := cnf.Parse(text); !equal(again, f) || e != api.OK {
			t.Fatal(f, again, e)
		}
		text = spoiled(r, text)
		again, e := cnf.Parse(text)
		if e != api.OK && (e != api.ErrSyntax || !equal(again, formula(0))) {
			t.Fatal(text, again, e)
		}
		if e == api.OK {
			valid++
			other += map[bool]int{true: 1}[text != cnf.Format(f)]
			if cnf.Format(again) != text {
				t.Fatal(text, again)
			}
		}
		if (e == api.OK) != isText(text) {
			t.Fatal(text, again, e)
		}
	}
	if valid < 1000 || other < 300 {
		t.Error(valid, other)
	}
}

// isText reports by the definition whether a text is that of a valid formula.
func isText(text string) bool {
	l := strings.Split(text, "\n")
	head := strings.Split(l[0], " ")
	if l[len(l)-1] != "" || len(head) != 4 || head[0] != "p" || head[1] != "cnf" || head[3] != strconv.Itoa(len(l)-2) {
		return false
	}
	variables := 0
	for ; strconv.Itoa(variables) != head[2]; variables++ {
		if variables == api.MaxVariables {
			return false
		}
	}
	for _, line := range l[1 : len(l)-1] {
		words := strings.Split(line, " ")
		before := 0
		for _, word := range words[:len(words)-1] {
			v, e := strconv.Atoi(strings.TrimPrefix(word, "-"))
			if e != nil || strconv.Itoa(v) != strings.TrimPrefix(word, "-") || v <= before || v > variables {
				return false
			}
			before = v
		}
		if words[len(words)-1] != "0" {
			return false
		}
	}
	return true
}
