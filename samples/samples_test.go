package samples_test

import (
	"math/rand"
	"slices"
	"testing"

	"assessor/api"
	"assessor/checker"
	"assessor/exercise"
	"assessor/interpreter"
	"assessor/lexer"
	"assessor/parser"
	"assessor/samples"
	"assessor/tree"
	"assessor/value"
)

func words(s string) []string {
	l, _ := lexer.Scan(s)
	return lexer.Words(s, l)
}

func TestProgramsAreRight(t *testing.T) {
	r := rand.New(rand.NewSource(1))
	right := 0
	for range 300 {
		n, s := samples.Program(r)
		if s == "" || tree.Count(n) > api.MaxNodes {
			continue
		}
		p, l, e := checker.Check(s)
		if parsed, _, _ := parser.Parse(s); len(l) > 0 || e != api.OK || !tree.Same(parsed, n) {
			t.Fatal(s, l, e)
		}
		right++
		for _, x := range p.Procedures {
			for _, v := range x.Variables {
				if scalars := samples.Scalars(r, p.Records, 3, v); !value.Valid(3, v.Type, p.Records, scalars) {
					t.Fatal(v, scalars)
				}
			}
		}
		if wide := samples.Spread(r, s); len(wide) <= api.MaxSource && (wide == s || !slices.Equal(words(wide), words(s))) {
			t.Fatal(wide)
		}
	}
	if right < 200 {
		t.Error(right)
	}
}

func TestCalmPrograms(t *testing.T) {
	r := rand.New(rand.NewSource(2))
	ended := map[bool]int{}
	for range 300 {
		n, s := samples.Calm(r)
		if s == "" || tree.Count(n) > api.MaxNodes {
			continue
		}
		p, l, e := checker.Check(s)
		if parsed, _, _ := parser.Parse(s); len(l) > 0 || e != api.OK || !tree.Same(parsed, n) {
			t.Fatal(s, l, e)
		}
		for _, x := range p.Procedures {
			input := samples.Scalars(r, p.Records, 5, x.Variables[:x.Parameters]...)
			if o, _, e := interpreter.Run(p, x.Name, api.Bounds{Width: 5, Loops: 4}, input); e == api.OK {
				ended[o.Fault == api.FaultNone]++
			}
		}
	}
	if ended[true] < ended[false] || ended[false] < 50 {
		t.Error(ended)
	}
}

func TestExercises(t *testing.T) {
	r := rand.New(rand.NewSource(3))
	valid, changed := 0, 0
	for range 300 {
		x, p, ok := samples.Exercise(r)
		if !ok {
			continue
		}
		made, e := exercise.New(x)
		if e != api.OK {
			continue
		}
		valid++
		if want, _, _ := checker.Check(x.Source); !tree.Same(want.Tree, p.Tree) {
			t.Fatal(x.Source)
		}
		source := samples.Changed(r, x.Source)
		if _, _, e := made.Submit(source); e == api.OK && !slices.Equal(words(source), words(x.Source)) {
			changed++
		}
	}
	if valid < 100 || changed < 50 {
		t.Error(valid, changed)
	}
}

func TestTextOfNoTree(t *testing.T) {
	if n, s := samples.Text(api.Node{Kind: -1}); n.Kind != 0 || s != "" {
		t.Error(n, s)
	}
}
