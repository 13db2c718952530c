package samples_test

import (
	"math/rand"
	"slices"
	"testing"

	"assessor/api"
	"assessor/checker"
	"assessor/lexer"
	"assessor/parser"
	"assessor/samples"
	"assessor/tree"
	"assessor/value"
)

func words(s string) []string {
	l, _ := lexer.Scan(s)
	return lexer.Words(s, l)
}

func TestProgramsAreRight(t *testing.T) {
	r := rand.New(rand.NewSource(1))
	right := 0
	for range 300 {
		n, s := samples.Program(r)
		if s == "" || tree.Count(n) > api.MaxNodes {
			continue
		}
		p, l, e := checker.Check(s)
		if parsed, _, _ := parser.Parse(s); len(l) > 0 || e != api.OK || !tree.Same(parsed, n) {
			t.Fatal(s, l, e)
		}
		right++
		for _, x := range p.Procedures {
			for _, v := range x.Variables {
				if scalars := samples.Scalars(r, p.Records, 3, v); !value.Valid(3, v.Type, p.Records, scalars) {
					t.Fatal(v, scalars)
				}
			}
		}
		if wide := samples.Spread(r, s); len(wide) <= api.MaxSource && (wide == s || !slices.Equal(words(wide), words(s))) {
			t.Fatal(wide)
		}
	}
	if right < 200 {
		t.Error(right)
	}
}

func TestTextOfNoTree(t *testing.T) {
	if n, s := samples.Text(api.Node{Kind: -1}); n.Kind != 0 || s != "" {
		t.Error(n, s)
	}
}
