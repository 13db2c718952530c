package tree_test

import (
	"math/rand"
	"regexp"
	"strings"
	"testing"

	"assessor/api"
	"assessor/tree"
)

func node(kind int, text string, kids ...api.Node) api.Node {
	return api.Node{Kind: kind, Text: text, Kids: kids}
}

// letters are the kinds of nodes, a letter each, in order.
const letters = "ABCDEFGHIJKLMNOPQRSTUVWXYZabcd"

// Classes of kinds by their letters.
const (
	statements  = "MNOPQRST"
	expressions = "UVWXYZabcd"
)

const (
	aName   = "(?:[a-z][a-z0-9_]{0,15})"
	aNumber = "(?:0|[1-9][0-9]{0,8})"
)

// spec is the table of the chapter: for each kind a regular expression for the Text, and one for the letters of the Kids.
func spec() [][2]string {
	e, s := "["+expressions+"]", "["+statements+"]"
	return [][2]string{
		{"", ""},                            // A none
		{"x^", ""},                          // B error: never
		{"", "[DF]*"},                       // C program
		{aName, "E+"},                       // D record
		{aName, "J"},                        // E field (its type is checked besides)
		{aName, "G[AJK]L"},                  // F procedure
		{"", "[HI]*"},                       // G parameters
		{aName, "[AJK]"},                    // H parameter
		{aName, "[AJK]"},                    // I var parameter
		{"int|bool|" + aName, ""},           // J type
		{aNumber, ""},                       // K array type
		{"", s + "*"},                       // L block
		{aName, "[AJK]" + e},                // M var
		{"", "[UVW]" + e},                   // N assign
		{"", e + "L[ALO]"},                  // O if
		{"", e + "L"},                       // P while
		{aName, e + e + "L"},                // Q for
		{"", "A|" + e},                      // R return
		{"", e},                             // S assert
		{aName, e + "*"},                    // T do
		{aName, ""},                         // U name
		{"", "U" + e},                       // V index
		{aName, "U"},                        // W member
		{"", "U"},                           // X len
		{aNumber, ""},                       // Y number
		{"true|false", ""},                  // Z bool
		{"", e + "+"},                       // a list
		{aName, e + "*"},                    // b call
		{"-|not", e},                        // c unary
		{"or|and|[=!<>]=|[-<>+*/%]", e + e}, // d binary
	}
}

// checker compares trees with the table.
type checker struct{ texts, kids []*regexp.Regexp }

func newChecker() checker {
	var c checker
	for _, x := range spec() {
		c.texts = append(c.texts, regexp.MustCompile("^(?:"+x[0]+")$"))
		c.kids = append(c.kids, regexp.MustCompile("^(?:"+x[1]+")$"))
	}
	return c
}

func (c checker) fits(n api.Node) bool {
	if n.Kind < 0 || n.Kind >= len(letters) || !c.texts[n.Kind].MatchString(n.Text) || strings.HasSuffix(n.Text, "\n") {
		return false
	}
	word := strings.Contains(" record proc var if else while for to return assert and or not true false int bool len ", " "+n.Text+" ")
	if word && !strings.Contains("JZcd", letters[n.Kind:n.Kind+1]) {
		return false
	}
	if n.Kind == api.NodeType && word && n.Text != "int" && n.Text != "bool" {
		return false
	}
	below := ""
	for _, k := range n.Kids {
		if !c.fits(k) || n.Kind == api.NodeField && k.Text != "int" && k.Text != "bool" {
			return false
		}
		below += letters[k.Kind : k.Kind+1]
	}
	return c.kids[n.Kind].MatchString(below)
}

// randomOf returns a tree that has the shape of a kind among those of some letters.
func randomOf(r *rand.Rand, levels int, kinds string) api.Node {
	if levels <= 0 {
		for _, leaf := range []string{"U", "S", "L", "A"} {
			if strings.Contains(kinds, leaf) {
				kinds = leaf
				break
			}
		}
	}
	kind := strings.IndexByte(letters, kinds[r.Intn(len(kinds))])
	n := node(kind, randomText(r, kind))
	for _, k := range randomKids(r, kind) {
		n.Kids = append(n.Kids, randomOf(r, levels-1, k))
	}
	if kind == api.NodeField {
		n.Kids[0].Text = []string{"int", "bool"}[r.Intn(2)]
	}
	n.At = r.Intn(12)
	n.End = n.At + r.Intn(12)
	return n
}

func randomText(r *rand.Rand, kind int) string {
	var l []string
	switch spec()[kind][0] {
	case aName:
		l = []string{"a", "x1", "sixteen_letters_"}
	case "int|bool|" + aName:
		l = []string{"int", "bool", "point"}
	case aNumber:
		l = []string{"0", "3", "999999999"}
	case "true|false":
		l = []string{"true", "false"}
	case "-|not":
		l = []string{"-", "not"}
	case "":
		l = []string{""}
	default:
		l = strings.Fields("or and == != < <= > >= + - * / %")
	}
	return l[r.Intn(len(l))]
}

// randomKids returns the letters that each kid of a node of a kind can have.
func randomKids(r *rand.Rand, kind int) []string {
	var l []string
	shape := spec()[kind][1]
	if i := strings.IndexByte(shape, '|'); i >= 0 {
		shape = []string{shape[:i], shape[i+1:]}[r.Intn(2)]
	}
	for shape != "" {
		class, rest := shape[:1], shape[1:]
		if class == "[" {
			class, rest, _ = strings.Cut(rest, "]")
		}
		count := 1
		switch {
		case strings.HasPrefix(rest, "*"):
			count, rest = r.Intn(3), rest[1:]
		case strings.HasPrefix(rest, "+"):
			count, rest = 1+r.Intn(2), rest[1:]
		}
		for range count {
			l = append(l, class)
		}
		shape = rest
	}
	return l
}

func randomProgram(r *rand.Rand) api.Node { return randomOf(r, 6, "C") }

// randomTree returns a tree of which a few nodes do not have their shape.
func randomTree(r *rand.Rand) api.Node {
	roots := []string{"C", "C", statements, expressions, letters[:1] + letters[2:]}
	n := randomOf(r, 4, roots[r.Intn(len(roots))])
	for range r.Intn(3) {
		change(r, &n)
	}
	return n
}

// change changes something at a node that is found by chance.
func change(r *rand.Rand, n *api.Node) {
	for len(n.Kids) > 0 && r.Intn(4) > 0 {
		n = &n.Kids[r.Intn(len(n.Kids))]
	}
	switch r.Intn(5) {
	case 0:
		n.Kind = r.Intn(32) - 1
	case 1:
		texts := []string{"", "x", "X", "int", "if", "0", "00", "01", "7", "1000000000", "0000000007", "seventeen_letter_", "true", "not", "-", "=", "x ", "==", "%%", "and", "x\n", "1x", "_"}
		n.Text = texts[r.Intn(len(texts))]
	case 2:
		if len(n.Kids) > 0 {
			n.Kids = n.Kids[:len(n.Kids)-1]
		}
	case 3:
		n.Kids = append(n.Kids, randomOf(r, 1, letters[:1]+letters[2:]))
	case 4:
		if len(n.Kids) > 0 {
			n.Kids[r.Intn(len(n.Kids))] = randomOf(r, 1, letters[:1]+letters[2:])
		}
	}
}

// P3.1

func TestShapesLikeTheTable(t *testing.T) {
	c := newChecker()
	r := rand.New(rand.NewSource(7))
	shaped := 0
	for range 40000 {
		n := randomTree(r)
		fits := c.fits(n)
		letter := ""
		if 0 <= n.Kind && n.Kind < len(letters) {
			letter = letters[n.Kind : n.Kind+1]
		}
		is := func(kinds string) bool { return fits && strings.Contains(kinds, letter) }
		if tree.Valid(n) != is("C") || tree.Statement(n) != is(statements) || tree.Expression(n) != is(expressions) {
			t.Fatal(n, fits, tree.Valid(n), tree.Statement(n), tree.Expression(n))
		}
		if fits {
			shaped++
		}
	}
	if shaped < 10000 || shaped > 30000 {
		t.Error(shaped)
	}
}

// TestEachKind puts each kind, alone, with no kids and with one of each kind, below each other one.
func TestEachKind(t *testing.T) {
	c := newChecker()
	r := rand.New(rand.NewSource(8))
	for kind := range letters {
		for other := range letters {
			for range 3 {
				n := node(kind, randomText(r, kind))
				for _, k := range randomKids(r, kind) {
					n.Kids = append(n.Kids, randomOf(r, 1, k))
				}
				if len(n.Kids) > 0 {
					n.Kids[r.Intn(len(n.Kids))] = node(other, randomText(r, other))
				}
				fits := c.fits(n)
				if tree.Expression(n) != (fits && kind >= api.NodeName) {
					t.Fatal(n, fits)
				}
				if tree.Statement(n) != (fits && kind >= api.NodeVar && kind <= api.NodeDo) {
					t.Fatal(n, fits)
				}
				// In a block, a procedure and a program, the nodes that are neither can be checked, too.
				if tree.Valid(n) != (fits && kind == api.NodeProgram) {
					t.Fatal(n, fits)
				}
			}
		}
	}
}

func program(l ...api.Node) api.Node { return node(api.NodeProgram, "", l...) }

func procedure(result api.Node, statements ...api.Node) api.Node {
	return node(api.NodeProcedure, "f", node(api.NodeParameters, ""), result, node(api.NodeBlock, "", statements...))
}

func TestNamesAndNumbersOfNodes(t *testing.T) {
	for text, want := range map[string]bool{"a": true, "sixteen_letters_": true, "seventeen_letter_": false, "": false, "if": false, "int": false, "A": false, "1": false, "a b": false, "a\n": false, "_": false} {
		if tree.Expression(node(api.NodeName, text)) != want || tree.Statement(node(api.NodeDo, text)) != want || tree.Expression(node(api.NodeCall, text)) != want {
			t.Errorf("%q", text)
		}
		typed := text == "int" || text == "bool" || want
		if tree.Valid(program(procedure(node(api.NodeType, text)))) != typed {
			t.Errorf("type %q", text)
		}
		record := program(node(api.NodeRecord, text, node(api.NodeField, "x", node(api.NodeType, "int"))))
		field := program(node(api.NodeRecord, "r", node(api.NodeField, text, node(api.NodeType, "bool"))))
		if tree.Valid(record) != want || tree.Valid(field) != want {
			t.Errorf("record %q", text)
		}
	}
	for text, want := range map[string]bool{"0": true, "7": true, "999999999": true, "1000000000": false, "00": false, "01": false, "": false, "-1": false, "x": false, "1 ": false} {
		if tree.Expression(node(api.NodeNumber, text)) != want || tree.Valid(program(procedure(node(api.NodeArrayType, text)))) != want {
			t.Errorf("%q", text)
		}
	}
	for text, want := range map[string]bool{"int": true, "bool": true, "r": false, "": false, "if": false} {
		if tree.Valid(program(node(api.NodeRecord, "r", node(api.NodeField, "x", node(api.NodeType, text))))) != want {
			t.Errorf("field %q", text)
		}
	}
}

func TestOperators(t *testing.T) {
	x := node(api.NodeName, "x")
	for _, s := range strings.Fields("or and == != < <= > >= + - * / % not = ! => =< ++ & or. true") {
		binary := !strings.Contains(" not = ! => =< ++ & or. true ", " "+s+" ")
		if tree.Expression(node(api.NodeBinary, s, x, x)) != binary {
			t.Error(s)
		}
		if tree.Expression(node(api.NodeUnary, s, x)) != (s == "-" || s == "not") {
			t.Error(s)
		}
		if tree.Expression(node(api.NodeBool, s)) != (s == "true") {
			t.Error(s)
		}
	}
	if tree.Expression(node(api.NodeBinary, "", x, x)) || tree.Expression(node(api.NodeUnary, "", x)) || tree.Expression(node(api.NodeBool, "")) || !tree.Expression(node(api.NodeBool, "false")) {
		t.Error("empty texts")
	}
}

func TestTextsThatMustBeEmpty(t *testing.T) {
	x, none, block := node(api.NodeName, "x"), node(api.NodeNone, ""), node(api.NodeBlock, "")
	for i, make := range []func(string) api.Node{
		func(s string) api.Node { return node(api.NodeProgram, s) },
		func(s string) api.Node { return program(procedure(node(api.NodeNone, s))) },
		func(s string) api.Node {
			return program(node(api.NodeProcedure, "f", node(api.NodeParameters, s), none, block))
		},
		func(s string) api.Node {
			return program(node(api.NodeProcedure, "f", node(api.NodeParameters, ""), none, node(api.NodeBlock, s)))
		},
		func(s string) api.Node { return program(procedure(none, node(api.NodeAssign, s, x, x))) },
		func(s string) api.Node { return program(procedure(none, node(api.NodeIf, s, x, block, none))) },
		func(s string) api.Node { return program(procedure(none, node(api.NodeWhile, s, x, block))) },
		func(s string) api.Node { return program(procedure(none, node(api.NodeReturn, s, none))) },
		func(s string) api.Node { return program(procedure(none, node(api.NodeAssert, s, x))) },
		func(s string) api.Node {
			return program(procedure(none, node(api.NodeAssert, "", node(api.NodeIndex, s, x, x))))
		},
		func(s string) api.Node {
			return program(procedure(none, node(api.NodeAssert, "", node(api.NodeLen, s, x))))
		},
		func(s string) api.Node {
			return program(procedure(none, node(api.NodeAssert, "", node(api.NodeList, s, x))))
		},
	} {
		if !tree.Valid(make("")) || tree.Valid(make("x")) || tree.Valid(make("0")) {
			t.Error(i)
		}
	}
}

func TestKindsWithoutShape(t *testing.T) {
	for _, kind := range []int{api.NodeError, -1, len(letters), 1 << 62, -1 << 62} {
		n := node(kind, "")
		if tree.Valid(n) || tree.Expression(n) || tree.Statement(n) || tree.Valid(program(n)) || tree.Expression(node(api.NodeUnary, "-", n)) {
			t.Error(kind)
		}
	}
	if tree.Valid(api.Node{}) || tree.Expression(api.Node{}) || tree.Statement(api.Node{}) || !tree.Valid(program()) {
		t.Error("nothing")
	}
}

func TestList(t *testing.T) {
	for kind := -2; kind < 40; kind++ {
		want := kind >= 0 && kind < len(letters) && strings.Contains("CDGLTab", letters[kind:kind+1])
		if tree.List(kind) != want {
			t.Error(kind)
		}
	}
}
