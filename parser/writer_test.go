package parser_test

import (
	"math/rand"
	"strings"
	"testing"

	"assessor/api"
	"assessor/lexer"
	"assessor/parser"
	"assessor/tree"
)

func node(kind int, text string, kids ...api.Node) api.Node {
	return api.Node{Kind: kind, Text: text, Kids: kids}
}

func randomName(r *rand.Rand) string {
	l := []string{"a", "b", "x1", "to_", "sixteen_letters_"}
	return l[r.Intn(len(l))]
}

func randomNumber(r *rand.Rand) string {
	l := []string{"0", "1", "10", "999999999"}
	return l[r.Intn(len(l))]
}

func randomProgram(r *rand.Rand) api.Node {
	n := node(api.NodeProgram, "")
	for range r.Intn(3) {
		if r.Intn(3) == 0 {
			record := node(api.NodeRecord, randomName(r))
			for range 1 + r.Intn(3) {
				record.Kids = append(record.Kids, node(api.NodeField, randomName(r), node(api.NodeType, []string{"int", "bool"}[r.Intn(2)])))
			}
			n.Kids = append(n.Kids, record)
			continue
		}
		parameters := node(api.NodeParameters, "")
		for range r.Intn(3) {
			parameters.Kids = append(parameters.Kids, node(api.NodeParameter+r.Intn(2), randomName(r), randomType(r)))
		}
		n.Kids = append(n.Kids, node(api.NodeProcedure, randomName(r), parameters, randomType(r), randomBlock(r, 3)))
	}
	return n
}

func randomType(r *rand.Rand) api.Node {
	switch r.Intn(5) {
	case 0:
		return node(api.NodeType, "int")
	case 1:
		return node(api.NodeType, "bool")
	case 2:
		return node(api.NodeType, randomName(r))
	case 3:
		return node(api.NodeArrayType, randomNumber(r))
	}
	return node(api.NodeNone, "")
}

func randomBlock(r *rand.Rand, levels int) api.Node {
	n := node(api.NodeBlock, "")
	for range r.Intn(3) {
		n.Kids = append(n.Kids, randomStatement(r, levels-1))
	}
	return n
}

func randomStatement(r *rand.Rand, levels int) api.Node {
	e := func() api.Node { return randomExpression(r, 3) }
	if levels <= 0 {
		return node(api.NodeReturn, "", e())
	}
	switch kind := api.NodeVar + r.Intn(8); kind {
	case api.NodeVar:
		return node(kind, randomName(r), randomType(r), e())
	case api.NodeAssign:
		place := randomExpression(r, 1)
		for place.Kind != api.NodeName && place.Kind != api.NodeIndex && place.Kind != api.NodeMember {
			place = randomExpression(r, 2)
		}
		return node(kind, "", place, e())
	case api.NodeIf:
		other := node(api.NodeNone, "")
		if r.Intn(3) == 0 {
			other = randomBlock(r, levels)
		} else if r.Intn(2) == 0 {
			other = randomStatement(r, levels)
			for other.Kind != api.NodeIf {
				other = randomStatement(r, 1)
			}
		}
		return node(kind, "", e(), randomBlock(r, levels), other)
	case api.NodeWhile:
		return node(kind, "", e(), randomBlock(r, levels))
	case api.NodeFor:
		return node(kind, randomName(r), e(), e(), randomBlock(r, levels))
	case api.NodeReturn:
		if r.Intn(2) == 0 {
			return node(kind, "", node(api.NodeNone, ""))
		}
		return node(kind, "", e())
	case api.NodeAssert:
		return node(kind, "", e())
	default:
		return node(kind, randomName(r), randomList(r, 0, 3)...)
	}
}

func randomList(r *rand.Rand, least, levels int) []api.Node {
	var l []api.Node
	for range least + r.Intn(3) {
		l = append(l, randomExpression(r, levels-1))
	}
	return l
}

func randomExpression(r *rand.Rand, levels int) api.Node {
	name := node(api.NodeName, randomName(r))
	if levels <= 0 {
		return name
	}
	switch kind := api.NodeName + r.Intn(12); kind {
	case api.NodeName:
		return name
	case api.NodeIndex:
		return node(kind, "", name, randomExpression(r, levels-1))
	case api.NodeMember:
		return node(kind, randomName(r), name)
	case api.NodeLen:
		return node(kind, "", name)
	case api.NodeNumber:
		return node(kind, randomNumber(r))
	case api.NodeBool:
		return node(kind, []string{"true", "false"}[r.Intn(2)])
	case api.NodeList:
		return node(kind, "", randomList(r, 1, levels)...)
	case api.NodeCall:
		return node(kind, randomName(r), randomList(r, 0, levels)...)
	case api.NodeUnary:
		return node(kind, []string{"-", "not"}[r.Intn(2)], randomExpression(r, levels-1))
	default:
		l := strings.Fields("or and == != < <= > >= + - * / %")
		return node(api.NodeBinary, l[r.Intn(len(l))], randomExpression(r, levels-1), randomExpression(r, levels-1))
	}
}

// writer writes trees as text, with white space, comments, leading zeros and superfluous parentheses that are found by chance, and keeps where the last word ends.
type writer struct {
	r    *rand.Rand
	text string
	word string
	next int // where the next word begins; -1: not known yet
}

func newWriter(r *rand.Rand) *writer { return &writer{r: r} }

// words writes words, and returns where the first one begins.
func (w *writer) words(l ...string) int {
	first := -1
	for _, s := range l {
		blanks := []string{"", "", "", " ", "\n", "\t\r ", "# c # if\n"}
		blank := blanks[w.r.Intn(len(blanks))]
		if blank == "" && w.word != "" {
			blank = lexer.Space(w.word, s)
		}
		w.text += blank
		if first < 0 {
			first = len(w.text)
		}
		w.text += s
		w.word = s
	}
	return first
}

// node writes a statement, a declaration, or a part of one, and returns its tree with places.
func (w *writer) node(n api.Node) api.Node {
	at := -1
	begin := func(l ...string) {
		if first := w.words(l...); at < 0 {
			at = first
		}
	}
	kids := n.Kids
	n.Kids = nil
	add := func(k api.Node) { n.Kids = append(n.Kids, k) }
	kid := func(i int) { add(w.node(kids[i])) }
	all := func(between string, write func(api.Node) api.Node) {
		for i, k := range kids {
			if i > 0 && between != "" {
				w.words(between)
			}
			k = write(k)
			if at < 0 {
				at = k.At
			}
			add(k)
		}
	}
	value := func(i int) { add(w.value(kids[i], 0)) }
	typed := func(i int) {
		if kids[i].Kind != api.NodeNone {
			w.words(":")
		}
		kid(i)
	}
	switch n.Kind {
	case api.NodeNone:
		n.At, n.End = len(w.text), len(w.text)
		return n
	case api.NodeProgram:
		all("", w.node)
		n.At, n.End = 0, len(w.text)
		return n
	case api.NodeRecord:
		begin("record", n.Text, "{")
		all(",", w.node)
		w.words("}")
	case api.NodeField, api.NodeParameter:
		begin(n.Text)
		typed(0)
	case api.NodeVarParameter:
		begin("var", n.Text)
		typed(0)
	case api.NodeProcedure:
		begin("proc", n.Text)
		kid(0)
		typed(1)
		kid(2)
	case api.NodeParameters:
		begin("(")
		all(",", w.node)
		w.words(")")
	case api.NodeType:
		begin(n.Text)
	case api.NodeArrayType:
		begin("int", "[", w.zeros(n.Text), "]")
	case api.NodeBlock:
		begin("{")
		all("", w.node)
		w.words("}")
	case api.NodeVar:
		begin("var", n.Text)
		typed(0)
		w.words("=")
		value(1)
		w.words(";")
	case api.NodeAssign:
		add(w.value(kids[0], 7))
		at = n.Kids[0].At
		w.words("=")
		value(1)
		w.words(";")
	case api.NodeIf:
		begin("if")
		value(0)
		kid(1)
		if kids[2].Kind != api.NodeNone {
			w.words("else")
		}
		kid(2)
	case api.NodeWhile:
		begin("while")
		value(0)
		kid(1)
	case api.NodeFor:
		begin("for", n.Text, "=")
		value(0)
		w.words("to")
		value(1)
		kid(2)
	case api.NodeReturn:
		begin("return")
		if kids[0].Kind == api.NodeNone {
			kid(0)
		} else {
			value(0)
		}
		w.words(";")
	case api.NodeAssert:
		begin("assert")
		value(0)
		w.words(";")
	case api.NodeDo:
		begin(n.Text, "(")
		all(",", func(k api.Node) api.Node { return w.value(k, 0) })
		w.words(")", ";")
	}
	n.At, n.End = at, len(w.text)
	return n
}

// zeros puts zeros in front of a number, as many as one can have.
func (w *writer) zeros(s string) string {
	if w.r.Intn(3) > 0 {
		return s
	}
	return strings.Repeat("0", w.r.Intn(10-len(s))) + s
}

// level returns how strongly the operator of an expression binds.
func level(n api.Node) int {
	switch n.Kind {
	case api.NodeUnary:
		if n.Text == "not" {
			return 2
		}
		return 6
	case api.NodeBinary:
		switch n.Text {
		case "or":
			return 0
		case "and":
			return 1
		case "+", "-":
			return 4
		case "*", "/", "%":
			return 5
		}
		return 3
	}
	return 7
}

// value writes an expression where one of a level, or a stronger one, can stand, and returns its tree with places.
func (w *writer) value(n api.Node, least int) api.Node {
	k, _ := w.operand(n, least)
	return k
}

// operand does the same, and returns besides where its first parenthesis, or itself, begins.
func (w *writer) operand(n api.Node, least int) (api.Node, int) {
	if level(n) < least || least < 7 && w.r.Intn(6) == 0 {
		at := w.words("(")
		k := w.value(n, 0)
		w.words(")")
		return k, at
	}
	kids := n.Kids
	n.Kids = nil
	list := func() {
		for i, k := range kids {
			if i > 0 {
				w.words(",")
			}
			n.Kids = append(n.Kids, w.value(k, 0))
		}
	}
	switch n.Kind {
	case api.NodeName, api.NodeBool:
		n.At = w.words(n.Text)
	case api.NodeNumber:
		n.At = w.words(w.zeros(n.Text))
	case api.NodeIndex:
		name := w.value(kids[0], 7)
		n.At = name.At
		w.words("[")
		n.Kids = []api.Node{name, w.value(kids[1], 0)}
		w.words("]")
	case api.NodeMember:
		name := w.value(kids[0], 7)
		n.At = name.At
		n.Kids = []api.Node{name}
		w.words(".", n.Text)
	case api.NodeLen:
		n.At = w.words("len", "(")
		n.Kids = []api.Node{w.value(kids[0], 7)}
		w.words(")")
	case api.NodeList:
		n.At = w.words("[")
		list()
		w.words("]")
	case api.NodeCall:
		n.At = w.words(n.Text, "(")
		list()
		w.words(")")
	case api.NodeUnary:
		n.At = w.words(n.Text)
		n.Kids = []api.Node{w.value(kids[0], level(n))}
	case api.NodeBinary:
		left := level(n)
		if left == 3 {
			left++
		}
		a, at := w.operand(kids[0], left)
		n.At = at
		w.words(n.Text)
		n.Kids = []api.Node{a, w.value(kids[1], level(n)+1)}
	}
	n.End = len(w.text)
	return n, n.At
}

// TestWrittenPrograms holds that programs of all shapes, however they are written, have just their tree and the places at which they were written.
func TestWrittenPrograms(t *testing.T) {
	r := rand.New(rand.NewSource(3))
	for range 5000 {
		n := randomProgram(r)
		if !tree.Valid(n) {
			t.Fatal(show(n))
		}
		one, two := newWriter(r), newWriter(r)
		want := one.node(n)
		two.node(n)
		got, l, e := parser.Parse(one.text)
		if e == api.ErrTooLarge && len(one.text) > api.MaxSource {
			continue
		}
		if showPlaces(got) != showPlaces(want) || len(l) != 0 || e != api.OK {
			t.Fatalf("%q: %s %s %v", one.text, showPlaces(got), problems(l), e)
		}
		if other, l, e := parser.Parse(two.text); e == api.OK && (!tree.Same(got, other) || len(l) != 0) {
			t.Fatalf("%q %q", one.text, two.text)
		}
	}
}

func TestWrittenParts(t *testing.T) {
	r := rand.New(rand.NewSource(4))
	for range 5000 {
		one, two := newWriter(r), newWriter(r)
		want := one.value(randomExpression(r, 4), 0)
		if got, l, e := parser.Expression(one.text); showPlaces(got) != showPlaces(want) || len(l) != 0 || e != api.OK {
			t.Fatalf("%q: %s %s %v", one.text, showPlaces(got), problems(l), e)
		}
		want = two.node(randomStatement(r, 2))
		if got, l, e := parser.Statement(two.text); showPlaces(got) != showPlaces(want) || len(l) != 0 || e != api.OK {
			t.Fatalf("%q: %s %s %v", two.text, showPlaces(got), problems(l), e)
		}
	}
}
