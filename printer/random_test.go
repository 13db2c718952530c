package printer_test

import (
	"math/rand"
	"slices"
	"strings"
	"testing"

	"assessor/api"
	"assessor/lexer"
	"assessor/parser"
	"assessor/printer"
	"assessor/tree"
)

func randomWord(r *rand.Rand, words string) string {
	l := strings.Fields(words)
	return l[r.Intn(len(l))]
}

func randomName(r *rand.Rand) string { return randomWord(r, "a b x1 to_ sixteen_letters_") }

func randomProgram(r *rand.Rand) api.Node {
	n := node(api.NodeProgram, "")
	for range r.Intn(4) {
		if r.Intn(3) == 0 {
			record := node(api.NodeRecord, randomName(r))
			for range 1 + r.Intn(3) {
				record.Kids = append(record.Kids, node(api.NodeField, randomName(r), node(api.NodeType, randomWord(r, "int bool"))))
			}
			n.Kids = append(n.Kids, record)
			continue
		}
		parameters := node(api.NodeParameters, "")
		for range r.Intn(3) {
			parameters.Kids = append(parameters.Kids, node(api.NodeParameter+r.Intn(2), randomName(r), randomType(r)))
		}
		n.Kids = append(n.Kids, node(api.NodeProcedure, randomName(r), parameters, randomType(r), randomBlock(r, 3)))
	}
	return n
}

func randomType(r *rand.Rand) api.Node {
	switch r.Intn(4) {
	case 0:
		return node(api.NodeType, randomWord(r, "int bool point"))
	case 1:
		return node(api.NodeArrayType, randomWord(r, "0 1 8 999999999"))
	}
	return node(api.NodeNone, "")
}

func randomBlock(r *rand.Rand, levels int) api.Node {
	n := node(api.NodeBlock, "")
	for range r.Intn(3) {
		n.Kids = append(n.Kids, randomStatement(r, levels-1))
	}
	return n
}

func randomStatement(r *rand.Rand, levels int) api.Node {
	e := func() api.Node { return randomExpression(r, 4) }
	kind := api.NodeVar + r.Intn(8)
	if levels <= 0 && kind >= api.NodeIf && kind <= api.NodeFor {
		kind = api.NodeDo
	}
	switch kind {
	case api.NodeVar:
		return node(kind, randomName(r), randomType(r), e())
	case api.NodeAssign:
		place := node(api.NodeName, randomName(r))
		switch r.Intn(3) {
		case 0:
			place = node(api.NodeIndex, "", place, e())
		case 1:
			place = node(api.NodeMember, randomName(r), place)
		}
		return node(kind, "", place, e())
	case api.NodeIf:
		other := node(api.NodeNone, "")
		switch r.Intn(3) {
		case 0:
			other = randomBlock(r, levels)
		case 1:
			other = node(kind, "", e(), randomBlock(r, levels-1), node(api.NodeNone, ""))
		}
		return node(kind, "", e(), randomBlock(r, levels), other)
	case api.NodeWhile:
		return node(kind, "", e(), randomBlock(r, levels))
	case api.NodeFor:
		return node(kind, randomName(r), e(), e(), randomBlock(r, levels))
	case api.NodeReturn:
		if r.Intn(2) == 0 {
			return node(kind, "", node(api.NodeNone, ""))
		}
		return node(kind, "", e())
	case api.NodeAssert:
		return node(kind, "", e())
	}
	return node(api.NodeDo, randomName(r), randomList(r, 0, 3)...)
}

func randomList(r *rand.Rand, least, levels int) []api.Node {
	var l []api.Node
	for range least + r.Intn(3) {
		l = append(l, randomExpression(r, levels-1))
	}
	return l
}

func randomExpression(r *rand.Rand, levels int) api.Node {
	name := node(api.NodeName, randomName(r))
	if levels <= 0 {
		return name
	}
	switch kind := api.NodeName + r.Intn(14); kind {
	case api.NodeName:
		return name
	case api.NodeIndex:
		return node(kind, "", name, randomExpression(r, levels-1))
	case api.NodeMember:
		return node(kind, randomName(r), name)
	case api.NodeLen:
		return node(kind, "", name)
	case api.NodeNumber:
		return node(kind, randomWord(r, "0 1 10 999999999"))
	case api.NodeBool:
		return node(kind, randomWord(r, "true false"))
	case api.NodeList:
		return node(kind, "", randomList(r, 1, levels)...)
	case api.NodeCall:
		return node(kind, randomName(r), randomList(r, 0, levels)...)
	case api.NodeUnary:
		return node(kind, randomWord(r, "- not"), randomExpression(r, levels-1))
	}
	return node(api.NodeBinary, randomWord(r, "or and == != < <= > >= + - * / %"), randomExpression(r, levels-1), randomExpression(r, levels-1))
}

// words returns the words of a text without the end.
func words(t *testing.T, s string) []string {
	t.Helper()
	l, e := lexer.Scan(s)
	if e != api.OK {
		t.Fatal(e)
	}
	w := lexer.Words(s, l)
	return w[:len(w)-1]
}

// spaced lays out the words of a program by rules for neighbouring words, without a tree.
func spaced(l []string) string {
	s, last, depth, record, unary := "", "\n", 0, false, false
	operand := func(w string) bool {
		return w == ")" || w == "]" || w == "true" || w == "false" || w[0] >= '0' && w[0] <= '9' || lexer.Name(w)
	}
	line := func() string { return "\n" + strings.Repeat("  ", depth) }
	for i, w := range l {
		switch {
		case i == 0 || last == ";" || last == "{" && !record || last == "}" && w != "else":
			if w == "}" && !record {
				depth--
			}
			if i > 0 {
				s += line()
			}
		case slices.Contains([]string{")", "]", ",", ";", ":", "."}, w) || slices.Contains([]string{"(", "[", "."}, last) || unary:
		case w == "(" && (lexer.Name(last) || last == "len") || w == "[" && (lexer.Name(last) || last == "int"):
		default:
			s += " "
		}
		unary = w == "-" && !operand(last)
		if w == "record" {
			record = true
		} else if w == "proc" {
			record = false
		}
		if w == "{" && !record {
			depth++
		}
		s += w
		last = w
	}
	if s != "" {
		s += "\n"
	}
	return s
}

// pairs returns the offsets of the parentheses around expressions (not those of calls and len).
func pairs(t *testing.T, s string) [][2]int {
	var found [][2]int
	var open []int
	tokens, _ := lexer.Scan(s)
	l := words(t, s)
	for i, w := range l {
		switch w {
		case "(":
			at := tokens[i].At
			if i > 0 && (lexer.Name(l[i-1]) || l[i-1] == "len") {
				at = -1
			}
			open = append(open, at)
		case ")":
			if at := open[len(open)-1]; at >= 0 {
				found = append(found, [2]int{at, tokens[i].At})
			}
			open = open[:len(open)-1]
		}
	}
	return found
}

// P5.4

// TestRandomPrograms holds that texts have the trees from which they were written, just the white space of canonical texts, and no parentheses that could be left out.
func TestRandomPrograms(t *testing.T) {
	r := rand.New(rand.NewSource(5))
	texts := map[string]api.Node{}
	for range 3000 {
		n := randomProgram(r)
		s, e := printer.Format(n)
		if e == api.ErrTooLarge {
			continue
		}
		back, l, e2 := parser.Parse(s)
		if e != api.OK || len(l) != 0 || e2 != api.OK || !tree.Same(n, back) {
			t.Fatalf("%q %v %v %v", s, e, l, e2)
		}
		if want := spaced(words(t, s)); s != want {
			t.Fatalf("%s\nnot\n%s", s, want)
		}
		if other, ok := texts[s]; ok && !tree.Same(n, other) {
			t.Fatalf("%q for two trees", s)
		}
		texts[s] = n
		if again, _ := printer.Format(back); again != s {
			t.Fatalf("%q %q", s, again)
		}
	}
}

func TestRandomExpressions(t *testing.T) {
	r := rand.New(rand.NewSource(6))
	for range 20000 {
		n := randomExpression(r, 5)
		s, e := printer.Expression(n)
		if e != api.OK {
			t.Fatal(s, e)
		}
		if back, l, _ := parser.Expression(s); len(l) != 0 || !tree.Same(n, back) {
			t.Fatalf("%q %v", s, l)
		}
		for _, p := range pairs(t, s) {
			less := s[:p[0]] + " " + s[p[0]+1:p[1]] + " " + s[p[1]+1:]
			if back, l, _ := parser.Expression(less); len(l) == 0 && tree.Same(n, back) {
				t.Fatalf("%q can be %q", s, less)
			}
		}
		if s+";\n" != spaced(append(words(t, s), ";")) {
			t.Fatal(s)
		}
	}
}

// TestRandomStatements holds that the depth of a statement is seen in all lines but the first one, and nowhere else.
func TestRandomStatements(t *testing.T) {
	r := rand.New(rand.NewSource(7))
	for range 3000 {
		n := randomStatement(r, 3)
		flat, e := printer.Statement(n, 0)
		depth := r.Intn(5)
		s, e2 := printer.Statement(n, depth)
		if e == api.ErrTooLarge || e2 == api.ErrTooLarge {
			continue
		}
		if e != api.OK || e2 != api.OK || s != strings.ReplaceAll(flat, "\n", "\n"+strings.Repeat("  ", depth)) {
			t.Fatalf("%q %q %v %v", flat, s, e, e2)
		}
		if flat+"\n" != spaced(words(t, flat)) {
			t.Fatal(flat)
		}
		if back, l, _ := parser.Statement(s); len(l) != 0 || !tree.Same(n, back) {
			t.Fatalf("%q %v", s, l)
		}
	}
}

// TestTextsTellTreesApart holds that a tree that differs in one node has another text.
func TestTextsTellTreesApart(t *testing.T) {
	r := rand.New(rand.NewSource(8))
	for range 5000 {
		n, m := randomExpression(r, 3), randomExpression(r, 3)
		s, _ := printer.Expression(n)
		s2, _ := printer.Expression(m)
		if (s == s2) != tree.Same(n, m) {
			t.Fatal(s, s2)
		}
	}
}

func FuzzFormat(f *testing.F) {
	f.Add("proc f(x){if(x<1){x=(1+x)*-2;}}")
	f.Add("record p{x:int}proc f():p{return[1,not a or b.c==len(d)];}")
	f.Fuzz(func(t *testing.T, s string) {
		n, l, e := parser.Parse(s)
		text, e2 := printer.Format(n)
		switch {
		case e != api.OK || len(l) > 0 && !tree.Valid(n):
			if text != "" || e2 != api.ErrArg {
				t.Error(text, e2)
			}
		case e2 == api.OK:
			if back, l, _ := parser.Parse(text); len(l) != 0 || !tree.Same(n, back) {
				t.Error(text, l)
			}
		case e2 != api.ErrTooLarge:
			t.Error(e2)
		}
	})
}
