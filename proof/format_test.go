package proof_test

import (
	"math/rand"
	"slices"
	"strconv"
	"strings"
	"testing"

	"assessor/api"
	"assessor/proof"
)

// P27.3

func TestFormat(t *testing.T) {
	for _, x := range []struct {
		proof [][]int
		want  string
	}{
		{nil, ""}, {[][]int{nil}, "0\n"}, {[][]int{{1}, nil}, "1 0\n0\n"}, {[][]int{{-1, 2, -10}, {}, {65536}}, "-1 2 -10 0\n0\n65536 0\n"}, {[][]int{{-65536}}, "-65536 0\n"},
	} {
		if s := proof.Format(x.proof); s != x.want {
			t.Errorf("%v %q", x.proof, s)
		}
		if l, e := proof.Parse(x.want); !equal(l, x.proof) || e != api.OK {
			t.Errorf("%q %v %v", x.want, l, e)
		}
	}
	for _, clause := range wrongClauses() {
		if slices.Equal(clause, []int{3}) || slices.Equal(clause, []int{-3}) || slices.Equal(clause, []int{1, 3}) {
			// Proofs have formulas of their own.
			continue
		}
		for _, l := range [][][]int{{clause}, {{1}, clause, nil}, {nil, clause}} {
			if s := proof.Format(l); s != "" {
				t.Errorf("%v %q", l, s)
			}
		}
	}
	// The last one of many steps counts, too.
	l := append(make([][]int, api.MaxClauses), []int{2, 1})
	if s := proof.Format(l); s != "" {
		t.Errorf("%.30q", s)
	}
}

func TestParse(t *testing.T) {
	for _, text := range []string{
		"\n", "0", "1", "1\n", "1 0", "1 0\n0", "1 0\n\n", "\n0\n", "1 0\n\n0\n", " 0\n", "0 \n", " 1 0\n", "1  0\n", "1 0 \n", "1 0\r\n", "1\t0\n", "1,0\n", "1 0 0\n", "0 0\n", "0 1 0\n", "1 0 2 0\n", "1 2\n0\n", "c\n0\n", "p cnf 3 0\n", "p cnf 3 0\n0\n", "d 1 0\n", "0\n ",
		"+1 0\n", "01 0\n", "-01 0\n", "- 1 0\n", "--1 0\n", "-0\n", "1 -0\n", "00\n", "1 00\n", "1.0 0\n", "0x1 0\n", "1_0 0\n", "x 0\n", "1 x 0\n", "１ 0\n", "1 0\x00\n", "\xff 0\n", "99999999999999999999 0\n", "-9223372036854775808 0\n", "4294967297 0\n",
		"1 1 0\n", "1 -1 0\n", "2 1 0\n", "65537 0\n", "-65537 0\n", "1 65537 0\n", "0\n1 0\n2 1 0\n",
	} {
		if l, e := proof.Parse(text); len(l) > 0 || e != api.ErrSyntax {
			t.Errorf("%q %v %v", text, l, e)
		}
	}
}

// isText reports by the definition whether a text is that of a proof with numbers below 100.
func isText(text string) bool {
	l := strings.Split(text, "\n")
	if l[len(l)-1] != "" {
		return false
	}
	for _, line := range l[:len(l)-1] {
		words := strings.Split(line, " ")
		before := 0
		for _, word := range words[:len(words)-1] {
			v, e := strconv.Atoi(strings.TrimPrefix(word, "-"))
			if e != nil || strconv.Itoa(v) != strings.TrimPrefix(word, "-") || v <= before {
				return false
			}
			before = v
		}
		if words[len(words)-1] != "0" {
			return false
		}
	}
	return true
}

// P27.4

func TestRandomTexts(t *testing.T) {
	r := rand.New(rand.NewSource(1))
	valid := 0
	for range 20000 {
		var l [][]int
		var b strings.Builder
		for range r.Intn(5) {
			clause := random(r, 12, 3)
			l = append(l, clause)
			for _, x := range clause {
				b.WriteString(strconv.Itoa(x) + " ")
			}
			b.WriteString("0\n")
		}
		text := b.String()
		if s := proof.Format(l); s != text {
			t.Fatal(l, s)
		}
		if again, e := proof.Parse(text); !equal(again, l) || e != api.OK {
			t.Fatal(l, again, e)
		}
		at := r.Intn(len(text) + 1)
		end := min(len(text), at+r.Intn(3))
		parts := []string{"", " ", "\n", "0", "-", "1", "3", "0\n", " 0", "+", "x", "1 2 0\n"}
		text = text[:at] + parts[r.Intn(len(parts))] + text[end:]
		again, e := proof.Parse(text)
		switch {
		case isText(text) && (e != api.OK || proof.Format(again) != text):
			t.Fatalf("%q %v %v", text, again, e)
		case !isText(text) && (e != api.ErrSyntax || len(again) > 0):
			t.Fatalf("%q %v %v", text, again, e)
		case e == api.OK:
			valid++
		}
	}
	if valid < 2000 || valid > 18000 {
		t.Error(valid)
	}
}
