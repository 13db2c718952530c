package layout_test

import (
	"fmt"
	"reflect"
	"slices"
	"strings"
	"testing"

	"assessor/api"
	"assessor/layout"
	"assessor/lexer"
	"assessor/parser"
	"assessor/printer"
	"assessor/text"
	"assessor/tree"
)

func node(kind int, text string, kids ...api.Node) api.Node {
	return api.Node{Kind: kind, Text: text, Kids: kids}
}

// parse returns the tree of a text without diagnostics.
func parse(t *testing.T, s string) api.Node {
	t.Helper()
	n, l, e := parser.Parse(s)
	if len(l) > 0 || e != api.OK {
		t.Fatalf("%q: %v %v", s, l, e)
	}
	return n
}

// part returns the tree of an expression or, if it is none, a statement.
func part(t *testing.T, s string) api.Node {
	t.Helper()
	if n, l, _ := parser.Expression(s); len(l) == 0 {
		return n
	}
	n, l, e := parser.Statement(s)
	if len(l) > 0 || e != api.OK {
		t.Fatalf("%q: %v %v", s, l, e)
	}
	return n
}

// path returns the path that digits are.
func path(digits string) []int {
	p := []int{}
	for _, d := range digits {
		p = append(p, int(d-'0'))
	}
	return p
}

// show writes a replacement.
func show(r api.Replacement, e api.Errno) string {
	if e != api.OK {
		if r != (api.Replacement{}) {
			return "a result with an error"
		}
		return fmt.Sprint(int(e))
	}
	return fmt.Sprintf("%d %d %q", r.At, r.End, r.Text)
}

// apply returns the text after a replacement.
func apply(t *testing.T, s string, r api.Replacement) string {
	t.Helper()
	after, e := text.Apply(s, r)
	if e != api.OK {
		t.Fatalf("%q %v %v", s, r, e)
	}
	return after
}

// holds checks that a replacement has become a text, and that this is read as a tree without diagnostics.
func holds(t *testing.T, s string, r api.Replacement, e api.Errno, after string, n api.Node) {
	t.Helper()
	if e != api.OK {
		t.Errorf("%q: %v", s, e)
		return
	}
	got := apply(t, s, r)
	if got != after {
		t.Errorf("%q: %q", s, got)
	}
	if m, l, e := parser.Parse(got); len(l) > 0 || e != api.OK || !tree.Same(m, n) {
		t.Errorf("%q: %q is another tree, %v %v", s, got, l, e)
	}
}

// with returns the tree with another node in the place of that with a path.
func with(t *testing.T, n api.Node, path []int, by api.Node) api.Node {
	t.Helper()
	i := path[len(path)-1]
	m, e := tree.Replace(n, path[:len(path)-1], i, i+1, by)
	if e != api.OK {
		t.Fatal(e)
	}
	return m
}

// P6.1

// joined writes the words of tokens.
func joined(s string, l []api.Token) string {
	words := lexer.Words(s, l)
	for i, t := range l {
		if t.Kind == api.TokenEnd {
			words[i] = "end"
		}
	}
	return strings.Join(words, "|")
}

func TestOwn(t *testing.T) {
	for _, x := range []struct {
		s    string
		want []string // the words of each node, by its number
	}{
		{"", []string{"end"}},
		{"# c\n", []string{"end"}},
		{"$ $", []string{"$|$|end"}},
		{"proc f(x){return x+1;}", []string{"end", "proc|f", "(|)", "x", "", "", "{|}", "return|;", "+", "x", "1"}},
		{"proc f ( var x : int [ 02 ] , y ) : bool { } ", []string{"end", "proc|f|:", "(|,|)", "var|x|:", "int|[|02|]", "y", "", "bool", "{|}"}},
		{"record p{x:int,y:bool}", []string{"end", "record|p|{|,|}", "x|:", "int", "y|:", "bool"}},
		{"proc f(){x=((1)+(2))*3;}", []string{"end", "proc|f", "(|)", "", "{|}", "=|;", "x", "(|)|*", "(|)|+|(|)", "1", "2", "3"}},
		{"proc f(){if(a){}else if b{}else{f(a[1],len(b),c.d,[2],-e);}}", []string{"end", "proc|f", "(|)", "", "{|}", "if|(|)|else", "a", "{|}", "if|else", "b", "{|}", "{|}",
			"f|(|,|,|,|,|)|;", "[|]", "a", "1", "len|(|)", "b", ".|d", "c", "[|]", "2", "-", "e"}},
		{"proc f(){var x:p=1;for i=1 to 2{}while true{}return;assert x;}", []string{"end", "proc|f", "(|)", "", "{|}", "var|x|:|=|;", "p", "1", "for|i|=|to", "1", "2", "{|}", "while", "true", "{|}", "return|;", "", "assert|;", "x"}},
		{"x $ proc f(){x=$;} $", []string{"$|$|end", "x", "proc|f", "(|)", "", "{|}", "=|$|;", "x", ""}},
		{"proc f(){x=+$1$;}", []string{"end", "proc|f", "(|)", "", "{|}", "=|$|;", "x", "+|$", "", "1"}},
		{"proc f(){$1 $ 2; } x", []string{"end", "proc|f", "(|)", "", "{|$|}", "1|$|2|;", "x"}},
		{"proc", []string{"end", "proc", "", "", "", "", ""}},
		{"proc f(", []string{"end", "proc|f", "(", "", "", "", ""}},
	} {
		n, _, _ := parser.Parse(x.s)
		if tree.Count(n) != len(x.want) {
			t.Errorf("%q has %d nodes", x.s, tree.Count(n))
			continue
		}
		for number, want := range x.want {
			l, e := layout.Own(x.s, n, number)
			if got := joined(x.s, l); got != want || e != api.OK {
				t.Errorf("%q %d: %q %v", x.s, number, got, e)
			}
		}
		for _, number := range []int{-1, -1 << 63, len(x.want), 1<<63 - 1} {
			if l, e := layout.Own(x.s, n, number); len(l) != 0 || e != api.ErrNotFound {
				t.Errorf("%q %d: %v %v", x.s, number, l, e)
			}
		}
	}
}

func TestOwnTokensAreThoseOfTheText(t *testing.T) {
	s := "proc # c\n f(){ }"
	l, e := layout.Own(s, parse(t, s), 1)
	want := []api.Token{{Kind: api.TokenKeyword, At: 0, End: 4}, {Kind: api.TokenName, From: 4, At: 10, End: 11}}
	if !slices.Equal(l, want) || e != api.OK {
		t.Error(l, e)
	}
	l, e = layout.Own(" ", parse(t, " "), 0)
	if !slices.Equal(l, []api.Token{{Kind: api.TokenEnd, At: 1, End: 1}}) || e != api.OK {
		t.Error(l, e)
	}
}

func TestPrint(t *testing.T) {
	for _, s := range []string{"", " ", "# c", "proc f(x){return x+1;}", "\tproc f ( ) { # c\n } # d\n\n", "$ x $", "proc f(){$x=$+$;} $", "record p{x}", "proc f(){x=((1)+ 2)*-(3);", "}}}", "proc f()"} {
		n, _, _ := parser.Parse(s)
		if got, e := layout.Print(s, n); got != s || e != api.OK {
			t.Errorf("%q: %q %v", s, got, e)
		}
	}
}

func TestIndent(t *testing.T) {
	s := "a\n  b\r\n\t c \t\n \r d\n\n   "
	for at, want := range []string{"", "", "  ", "  ", "  ", "  ", "  ", "\t ", "\t ", "\t ", "\t ", "\t ", "\t ", " ", " ", " ", " ", " ", "", "   ", "   ", "   ", "   "} {
		if got := layout.Indent(s, at); got != want {
			t.Errorf("%d: %q", at, got)
		}
	}
	for _, at := range []int{-1, -1 << 63, len(s) + 1, 1<<63 - 1} {
		if got := layout.Indent("  a", at); got != "" {
			t.Error(at, got)
		}
	}
	if layout.Indent("", 0) != "" || layout.Indent("", 1) != "" || layout.Indent("  ", 2) != "  " || layout.Indent(strings.Repeat(" ", api.MaxText+1), 0) != strings.Repeat(" ", api.MaxText+1) {
		t.Error("wrong ends")
	}
}

// Errors of all functions

func TestTreesOfOtherTexts(t *testing.T) {
	s := "proc f(){x=1;}"
	n := parse(t, s)
	moved := parse(t, s)
	moved.Kids[0].Kids[2].Kids[0].At++
	longer := parse(t, s)
	longer.Kids[0].Kids[2].Kids[0].Kids[1].End++
	word := parse(t, s)
	word.Kids[0].Text = "g"
	kind := parse(t, s)
	kind.Kids[0].Kids[2].Kids[0].Kids[1].Kind = api.NodeName
	more := parse(t, s)
	more.Kids[0].Kids[2].Kids[0].Kids[0].Kids = []api.Node{{}}
	large := strings.Repeat(" ", api.MaxSource+1)
	for i, x := range []struct {
		s string
		n api.Node
	}{{s, api.Node{}}, {s, tree.Bare(n)}, {s, moved}, {s, longer}, {s, word}, {s, kind}, {s, more}, {s, n.Kids[0]}, {s + " ", n}, {" " + s, n}, {"", n}, {large, api.Node{Kind: api.NodeProgram, End: len(large)}}, {large, api.Node{}}} {
		own, e := layout.Own(x.s, x.n, -1)
		printed, e2 := layout.Print(x.s, x.n)
		if len(own) > 0 || e != api.ErrArg || printed != "" || e2 != api.ErrArg {
			t.Error(i, own, printed, e, e2)
		}
		changes(t, x.s, x.n)
	}
}

// changes checks that no replacement is made of a text and a tree, whatever else is wrong.
func changes(t *testing.T, s string, n api.Node) {
	t.Helper()
	for _, p := range [][]int{nil, {-1}, {0, 2}, {0, 2, 0}, {0, 2, 0, 1}, {9}} {
		for i := -1; i < 3; i++ {
			l := []string{show(layout.Replace(s, n, p, node(i, ""))), show(layout.Word(s, n, p, "x")), show(layout.Insert(s, n, p, i, node(api.NodeDo, "f"))), show(layout.Delete(s, n, p, i))}
			if strings.Join(l, "") != "1111" {
				t.Errorf("%q %v %d: %v", s, p, i, l)
			}
		}
	}
}

func TestTextsWithDiagnostics(t *testing.T) {
	for _, s := range []string{"proc f(){x=1;$}", "proc f(){x=1}", "proc f(){x=1;}}", "proc f(){x=1234567890;}", "proc f(){x=seventeen_letter_;}", "$proc f(){x=1;}", "proc f(){x=1;}$", "proc f(){x=;}"} {
		n, _, _ := parser.Parse(s)
		changes(t, s, n)
		if printed, e := layout.Print(s, n); printed != s || e != api.OK {
			t.Error(s, printed, e)
		}
	}
}

// P6.2

func TestReplace(t *testing.T) {
	for _, x := range [][4]string{
		// the text, the path, the new node, the text behind it
		{"proc f(x){x=(x+1)*2;#c\n}", "02010", "x-y", "proc f(x){x=(x - y)*2;#c\n}"},
		{"proc f(x){x=(x+1)*2;#c\n}", "02011", "x+y", "proc f(x){x=(x+1)*(x + y);#c\n}"},
		{"proc f(x){x=(x+1)*2;#c\n}", "0201", "x+y", "proc f(x){x=x + y;#c\n}"},
		{"proc f(x){x=(x+1)*2;#c\n}", "020", "return;", "proc f(x){return;#c\n}"},
		{"proc f(x){x=(x+1)*2;#c\n}", "0200", "x[y]", "proc f(x){x[y]=(x+1)*2;#c\n}"},
		// Parentheses: where they are needed, and not there already.
		{"proc f(){x=a*b;}", "02010", "c+d", "proc f(){x=(c + d)*b;}"},
		{"proc f(){x=(a)*b;}", "02010", "c+d", "proc f(){x=(c + d)*b;}"},
		{"proc f(){x=((a))*b;}", "02010", "c+d", "proc f(){x=((c + d))*b;}"},
		{"proc f(){x= ( #(\na#)\n) *b;}", "02010", "c+d", "proc f(){x= ( #(\nc + d#)\n) *b;}"},
		{"proc f(){x=(a)*b;}", "02010", "c*d", "proc f(){x=(c * d)*b;}"},
		{"proc f(){x=(a*b)-c;}", "020100", "d+e", "proc f(){x=((d + e)*b)-c;}"},
		{"proc f(){x=c-(a*b);}", "020111", "d+e", "proc f(){x=c-(a*(d + e));}"},
		{"proc f(){x=c-(a*b);}", "020110", "d+e", "proc f(){x=c-((d + e)*b);}"},
		{"proc f(){x=c-(a*b);}", "02011", "d+e", "proc f(){x=c-(d + e);}"},
		{"proc f(){x=c-(a*b);}", "02010", "d+e", "proc f(){x=d + e-(a*b);}"},
		{"proc f(){x=-(a);}", "02010", "b-c", "proc f(){x=-(b - c);}"},
		{"proc f(){x=-a;}", "02010", "b-c", "proc f(){x=-(b - c);}"},
		{"proc f(){x=-a;}", "02010", "-b", "proc f(){x=--b;}"},
		{"proc f(){x=not(a);}", "02010", "b and c", "proc f(){x=not(b and c);}"},
		{"proc f(){x=not a;}", "02010", "b and c", "proc f(){x=not (b and c);}"},
		{"proc f(){x=not a;}", "02010", "b==c", "proc f(){x=not b == c;}"},
		{"proc f(){x=g(a);}", "02010", "b or c", "proc f(){x=g(b or c);}"},
		{"proc f(){x=g((a));}", "02010", "b or c", "proc f(){x=g((b or c));}"},
		{"proc f(){g(a,b);}", "0201", "b or c", "proc f(){g(a,b or c);}"},
		{"proc f(){x=[a];}", "02010", "b<c", "proc f(){x=[b < c];}"},
		{"proc f(){x=a[b];}", "02011", "b<c", "proc f(){x=a[b < c];}"},
		{"proc f(){if(a){}}", "0200", "b or c", "proc f(){if(b or c){}}"},
		{"proc f(){x=(a)<b;}", "02010", "b<c", "proc f(){x=(b < c)<b;}"},
		{"proc f(){x=a<b;}", "02010", "b<c", "proc f(){x=(b < c)<b;}"},
		{"proc f(){x=a<b;}", "02011", "not c", "proc f(){x=a<(not c);}"},
		{"proc f(){x=a and b;}", "02011", "not c", "proc f(){x=a and not c;}"},
		// Blanks: where words would run together.
		{"proc f(){x=not(a);}", "0201", "b", "proc f(){x=b;}"},
		{"proc f(){return(a)+b;}", "0200", "b", "proc f(){return b;}"},
		{"proc f(){return-a;}", "0200", "b", "proc f(){return b;}"},
		{"proc f(){return-a;}", "0200", "-b", "proc f(){return-b;}"},
		{"proc f(){return(a);}", "0200", "b", "proc f(){return(b);}"},
		{"proc f(){return[1];}", "0200", "7", "proc f(){return 7;}"},
		{"proc f(){x=(a)and(b);}", "02010", "c", "proc f(){x=(c)and(b);}"},
		{"proc f(){x=-(a)and[b];}", "02010", "c", "proc f(){x=c and[b];}"},
		{"proc f(){x=[a]and[b];}", "02011", "c", "proc f(){x=[a]and c;}"},
		{"proc f(){x=[a]and[b];}", "02010", "c", "proc f(){x=c and[b];}"},
		{"proc f(){x=[a]and[b];}", "02010", "c or d", "proc f(){x=(c or d)and[b];}"},
		{"proc f(){for i=1to 2{}}", "0200", "n", "proc f(){for i=n to 2{}}"},
		{"proc f(){for i=1to 2{}}", "0200", "3", "proc f(){for i=3to 2{}}"},
		{"proc f(){for i=1to[2]{}}", "0201", "n", "proc f(){for i=1to n{}}"},
		{"proc f(){while(a)or b{}}", "0200", "n", "proc f(){while n{}}"},
		{"proc f(){while(a)or b{}}", "0200", "-n", "proc f(){while-n{}}"},
		{"proc f(){x=1#c\n;}", "0201", "y", "proc f(){x=y#c\n;}"},
		{"proc f(){return#c\na;}", "0200", "b", "proc f(){return#c\nb;}"},
		// Names that stand in the place of names only.
		{"proc f(){x=a[1];}", "02010", "b", "proc f(){x=b[1];}"},
		{"proc f(){x=a.b;}", "02010", "c", "proc f(){x=c.b;}"},
		{"proc f(){x=len(a);}", "02010", "c", "proc f(){x=len(c);}"},
		{"proc f(){x=1;}", "0200", "a.b", "proc f(){a.b=1;}"},
		{"proc f(){x=(( 1 ));}", "0201", "a.b", "proc f(){x=(( a.b ));}"},
		// Statements with the indentation of their line.
		{"proc f() {\n\t x=1; # c\n}", "020", "while a{y=2;}", "proc f() {\n\t while a {\n\t   y = 2;\n\t } # c\n}"},
		{"  proc f() { x=1; }", "020", "while a{}", "  proc f() { while a {\n  } }"},
		{"proc f() {\n  if a { x=1; } else if b { }\n}", "02010", "while a{}", "proc f() {\n  if a { while a {\n  } } else if b { }\n}"},
		{"proc f() {\n  if a {\n  } else if b { }\n}", "0202", "if c{y=2;}else{}", "proc f() {\n  if a {\n  } else if c {\n    y = 2;\n  } else {\n  }\n}"},
		{"proc f() {\r\n  x=1;\r\n}", "020", "while a{}", "proc f() {\r\n  while a {\n  }\r\n}"},
		{"proc f() {\n \r x=1;\n}", "020", "while a{}", "proc f() {\n \r while a {\n }\n}"},
		{"proc f(){while a{\nx=1;#c\n}}", "020", "return;", "proc f(){return;}"},
	} {
		s, p, n := x[0], path(x[1]), parse(t, x[0])
		by := part(t, x[2])
		r, e := layout.Replace(s, n, p, by)
		holds(t, s, r, e, x[3], with(t, n, p, by))
		old, _ := tree.Get(n, p...)
		if r.At != old.At || r.End != old.End {
			t.Errorf("%q: %v", s, r)
		}
	}
}

func TestReplaceExamples(t *testing.T) {
	s := "proc f(x){x=(x+1)*2;#c\n}"
	n := parse(t, s)
	if got := show(layout.Replace(s, n, path("02010"), part(t, "x-y"))); got != `13 16 "x - y"` {
		t.Error(got)
	}
	if got := show(layout.Replace(s, n, path("02011"), part(t, "x+y"))); got != `18 19 "(x + y)"` {
		t.Error(got)
	}
}

func TestReplaceErrors(t *testing.T) {
	s := "record p{a:int}proc f(x:int){if a{}else if b{return;}else{x[1]=len(y)+y.a;}}"
	n := parse(t, s)
	x, do := part(t, "x"), part(t, "f();")
	for _, y := range []struct {
		path string
		by   api.Node
		want string
	}{
		{"2", x, "7"}, {"1203", x, "7"}, {"12000", x, "7"}, {"1200", node(30, ""), "5"},
		{"", n, "5"}, {"0", n.Kids[0], "5"}, {"00", n.Kids[0].Kids[0], "5"}, {"000", n.Kids[0].Kids[0].Kids[0], "5"}, {"1", n.Kids[1], "5"}, {"10", n.Kids[1].Kids[0], "5"}, {"100", n.Kids[1].Kids[0].Kids[0], "5"},
		{"1000", node(api.NodeType, "bool"), "5"}, {"11", node(api.NodeType, "bool"), "5"}, {"11", node(api.NodeNone, ""), "5"}, {"12", node(api.NodeBlock, ""), "5"}, {"1201", node(api.NodeBlock, ""), "5"}, {"", do, "5"}, {"12", do, "5"},
		{"120220", do, "25 0"}, {"120220", x, "5"}, {"120220", node(api.NodeBlock, ""), "5"}, {"120220", api.Node{}, "5"}, {"120220", node(api.NodeError, ""), "5"}, {"120220", node(api.NodeDo, "if"), "5"}, {"120220", node(api.NodeDo, "f", do), "5"},
		{"1202100", x, "5"}, {"1202200", part(t, "g()"), "5"}, {"1202200", part(t, "1"), "5"}, {"1202200", do, "5"}, {"12022000", part(t, "1"), "5"}, {"12022000", part(t, "x[1]"), "5"}, {"120221", do, "7"}, {"12022011", part(t, "1"), "OK"}, {"120220111", part(t, "1"), "7"},
		{"12022010", part(t, "1"), "OK"}, {"120220100", part(t, "1"), "5"}, {"120220110", part(t, "1"), "5"}, {"1200", do, "5"}, {"1200", node(api.NodeNone, ""), "5"}, {"1200", node(api.NodeBinary, "+", x), "5"},
		{"1202", do, "5"}, {"1202", x, "5"}, {"1202", node(api.NodeBlock, ""), "5"}, {"1202", node(api.NodeNone, ""), "5"}, {"1202", part(t, "if a{}"), "OK"}, {"120222", part(t, "if a{}"), "7"}, {"12022", part(t, "if a{}"), "5"}, {"120", n, "5"},
	} {
		got := show(layout.Replace(s, n, path(y.path), y.by))
		if len(y.want) == 1 && got != y.want || len(y.want) > 1 && !strings.Contains(got, `"`) {
			t.Errorf("%v by %v: %s", y.path, y.by, got)
		}
	}
	for _, p := range [][]int{{-1}, {0, -1}, {1, 2, 0, 0, 0, 0}, {1 << 62}} {
		if got := show(layout.Replace(s, n, p, node(30, ""))); got != "7" {
			t.Error(p, got)
		}
	}
}

// filled returns a program with one statement, in a comment that makes it as long as wanted.
func filled(size int) string {
	s := "proc f(){\n x=1+2;}"
	return s + "#" + strings.Repeat("c", size-len(s)-1)
}

func TestTooLargeAfterwards(t *testing.T) {
	for more := -1; more < 3; more++ {
		// Each change makes the text longer by 4.
		s := filled(api.MaxSource - 4 + more)
		n := parse(t, s)
		for i, got := range []string{
			show(layout.Replace(s, n, path("0201"), part(t, "y+345"))),
			show(layout.Replace(s, n, path("02011"), part(t, "y*3"))),
			show(layout.Replace(s, n, path("020"), part(t, "yyy=345;"))),
		} {
			if (got == "8") != (more > 0) {
				t.Error(more, i, got)
			}
		}
		s = filled(api.MaxSource - 8 + more)
		n = parse(t, s)
		for i, got := range []string{
			show(layout.Insert(s, n, path("02"), 0, part(t, "y=1;"))),
			show(layout.Insert(s, n, path("02"), 1, part(t, "y=1;"))),
		} {
			if (got == "8") != (more > 0) {
				t.Error(more, i, got)
			}
		}
	}
	s := filled(100)
	n := parse(t, s)
	long := node(api.NodeList, "")
	for range api.MaxSource {
		long.Kids = append(long.Kids, node(api.NodeName, "x"))
	}
	lines := node(api.NodeBlock, "")
	for range 150 {
		lines.Kids = append(lines.Kids, part(t, "while x{}"))
	}
	indented := "proc f(){\n" + strings.Repeat(" ", 50) + "x=1;}"
	for i, got := range []string{
		show(layout.Replace(s, n, path("0201"), long)),
		show(layout.Replace(s, n, path("02011"), node(api.NodeUnary, "not", long))),
		show(layout.Replace(s, n, path("020"), node(api.NodeAssert, "", long))),
		show(layout.Insert(s, n, path("02"), 0, node(api.NodeAssert, "", long))),
		show(layout.Replace(indented, parse(t, indented), path("020"), node(api.NodeWhile, "", node(api.NodeName, "x"), lines))),
		show(layout.Insert(indented, parse(t, indented), path("02"), 1, node(api.NodeWhile, "", node(api.NodeName, "x"), lines))),
	} {
		if got != "8" {
			t.Error(i, got)
		}
	}
	if got := show(layout.Replace(s, n, path("02"), long)); got != "5" {
		t.Error(got)
	}
	if got := show(layout.Insert(s, n, path("02"), 5, node(api.NodeAssert, "", long))); got != "2" {
		t.Error(got)
	}
}

// P6.3

func TestWord(t *testing.T) {
	for _, x := range [][4]string{
		{"proc f(x){}", "0", "g", "proc g(x){}"},
		{"proc f(x){}", "000", "y", "proc f(y){}"},
		{"proc # f\n f(var f:f){}", "000", "y", "proc # f\n f(var y:f){}"},
		{"proc f(f:f){}", "0000", "y", "proc f(f:y){}"},
		{"proc f(f:f){}", "0000", "int", "proc f(f:int){}"},
		{"proc f(x:int[03]):int[3]{}", "0000", "8", "proc f(x:int[8]):int[3]{}"},
		{"proc f(x:int[03]):int[3]{}", "01", "0", "proc f(x:int[03]):int[0]{}"},
		{"proc f(x:int[000]){}", "0000", "8", "proc f(x:int[8]){}"},
		{"record p{p:int,q:bool}", "0", "r", "record r{p:int,q:bool}"},
		{"record p{p:int,q:bool}", "00", "r", "record p{r:int,q:bool}"},
		{"record p{p:int,q:bool}", "000", "bool", "record p{p:bool,q:bool}"},
		{"proc f(){var x:x=x;}", "020", "y", "proc f(){var y:x=x;}"},
		{"proc f(){for i=1to 2{}}", "020", "j", "proc f(){for j=1to 2{}}"},
		{"proc f(){for i=1to 2{}}", "0200", "34", "proc f(){for i=34to 2{}}"},
		{"proc f(){f(f,f());}", "020", "g", "proc f(){g(f,f());}"},
		{"proc f(){f(f,f());}", "0200", "g", "proc f(){f(g,f());}"},
		{"proc f(){f(f,f());}", "0201", "g", "proc f(){f(f,g());}"},
		{"proc f(){x.x=true;}", "0200", "y", "proc f(){x.y=true;}"},
		{"proc f(){x.x=true;}", "02000", "y", "proc f(){y.x=true;}"},
		{"proc f(){x.x=true;}", "0201", "false", "proc f(){x.x=false;}"},
		{"proc f(){x=007;}", "0201", "7", "proc f(){x=7;}"},
		{"proc f(){x=0;}", "0201", "7", "proc f(){x=7;}"},
		{"proc f(){x=7;}", "0201", "0", "proc f(){x=0;}"},
		{"proc f(){x=(a)+(b+c);}", "0201", "-", "proc f(){x=(a)-(b+c);}"},
		{"proc f(){x=(a)+(b+c);}", "0201", "*", "proc f(){x=(a)*(b+c);}"},
		{"proc f(){x=(a)+(b+c);}", "02011", "or", "proc f(){x=(a)+(b or c);}"},
		{"proc f(){x=(a)and(b);}", "0201", "<=", "proc f(){x=(a)<=(b);}"},
		{"proc f(){x=(a)<(b);}", "0201", "and", "proc f(){x=(a)and(b);}"},
		{"proc f(){x=a<b;}", "0201", "and", "proc f(){x=a and b;}"},
		{"proc f(){x=a <b;}", "0201", "and", "proc f(){x=a and b;}"},
		{"proc f(){x=a< b;}", "0201", "and", "proc f(){x=a and b;}"},
		{"proc f(){x=1<b;}", "0201", "and", "proc f(){x=1and b;}"},
		{"proc f(){x=a<1;}", "0201", "==", "proc f(){x=a==1;}"},
		{"proc f(){x=-a;}", "0201", "not", "proc f(){x=not a;}"},
		{"proc f(){x=-(a);}", "0201", "not", "proc f(){x=not(a);}"},
		{"proc f(){x=not a;}", "0201", "-", "proc f(){x=- a;}"},
		{"proc f(){x=not not a;}", "02010", "not", "proc f(){x=not not a;}"},
		{"proc f(){return-a;}", "0200", "not", "proc f(){return not a;}"},
		{"proc f(){x=a-b-c;}", "0201", "or", "proc f(){x=a-b or c;}"},
	} {
		s, p, n := x[0], path(x[1]), parse(t, x[0])
		by, _ := tree.Get(n, p...)
		by.Text = x[2]
		r, e := layout.Word(s, n, p, x[2])
		holds(t, s, r, e, x[3], with(t, n, p, by))
		if strings.Trim(r.Text, " ") != x[2] {
			t.Errorf("%q: %v", s, r)
		}
	}
	s := "proc # c\nf(){}"
	if got := show(layout.Word(s, parse(t, s), path("0"), "g")); got != `9 10 "g"` {
		t.Error(got)
	}
}

func TestWordErrors(t *testing.T) {
	s := "record p{a:int}proc f(x:int[2]){if a{return;}else{x[1]=len(y)-y.a-(1-2)*-x;while true{}}}"
	n := parse(t, s)
	for _, x := range [][3]string{
		{"2", "x", "7"}, {"12022", "g", "7"}, {"1202200", "x", "7"},
		{"", "x", "5"}, {"", "", "5"}, {"0", "", "5"}, {"0", "if", "5"}, {"0", "1", "5"}, {"0", "x y", "5"}, {"0", " x", "5"}, {"0", "seventeen_letter_", "5"}, {"0", "X", "5"}, {"0", strings.Repeat("x", 1<<17), "5"}, {"0", "x#", "5"},
		{"000", "p", "5"}, {"000", "int[2]", "5"}, {"10", "x", "5"}, {"1000", "int", "5"}, {"1000", "02", "5"}, {"1000", "1000000000", "5"}, {"11", "int", "5"}, {"12", "x", "5"}, {"120", "x", "5"}, {"1201", "x", "5"}, {"12010", "x", "5"}, {"120100", "x", "5"},
		{"12020", "x", "5"}, {"120200", "x", "5"}, {"1202001", "x", "5"}, {"1202001", "-1", "5"}, {"1202001", "01", "5"}, {"120201", "=", "5"}, {"120201", "not", "5"}, {"120201", "!", "5"}, {"120201", "", "5"}, {"12021", "x", "5"}, {"120210", "false", "OK"}, {"120210", "x", "5"}, {"120210", "1", "5"},
		{"12020111", "+", "5"}, {"12020111", "not", "9"}, {"120201", "or", "OK"}, {"120201", "*", "9"}, {"1202010", "==", "9"}, {"1202010", "*", "OK"}, {"120201110", "z", "OK"}, {"1202011", "+", "9"}, {"12020110", "or", "OK"},
	} {
		r, e := layout.Word(s, n, path(x[0]), x[1])
		got := show(r, e)
		if len(x[2]) == 1 && got != x[2] || len(x[2]) > 1 && e != api.OK {
			t.Errorf("%s %.20q: %s", x[0], x[1], got)
		}
	}
	if got := show(layout.Word(s, n, []int{-1}, "")); got != "7" {
		t.Error(got)
	}
	for more := -1; more < 3; more++ {
		s := filled(api.MaxSource - 4 + more)
		if got := show(layout.Word(s, parse(t, s), path("0200"), "xyzzy")); (got == "9") != (more > 0) || got == "8" {
			t.Error(more, got)
		}
	}
}

// P6.4

func TestInsert(t *testing.T) {
	for _, x := range []struct {
		s, path string
		index   int
		by      string
		want    string
	}{
		{"proc f(x){x=(x+1)*2;#c\n}", "02", 0, "y=1;", "proc f(x){y = 1; x=(x+1)*2;#c\n}"},
		{"proc f(x){x=(x+1)*2;#c\n}", "02", 1, "y=1;", "proc f(x){x=(x+1)*2; y = 1;#c\n}"},
		{"proc f() {\n  x=1; # c\n}", "02", 0, "y=1;", "proc f() {\n  y = 1;\n  x=1; # c\n}"},
		{"proc f() {\n  x=1; # c\n}", "02", 1, "y=1;", "proc f() {\n  x=1;\n  y = 1; # c\n}"},
		{"proc f() {\n  x=1;\r\n\t z=2;}", "02", 1, "y=1;", "proc f() {\n  x=1;\r\n\t y = 1;\n\t z=2;}"},
		{"proc f() {\n  x=1;\r\n\t z=2;}", "02", 2, "y=1;", "proc f() {\n  x=1;\r\n\t z=2;\n\t y = 1;}"},
		{"proc f() {\n  x=1; z=2;\n}", "02", 1, "y=1;", "proc f() {\n  x=1; y = 1; z=2;\n}"},
		{"proc f() {\n  x=1; z=2;\n}", "02", 2, "y=1;", "proc f() {\n  x=1; z=2; y = 1;\n}"},
		{"proc f() {\n  x=1; z=2;\n}", "02", 2, "while a{y=1;}", "proc f() {\n  x=1; z=2; while a {\n    y = 1;\n  }\n}"},
		{"proc f() {\n  x=1; z=2;\n}", "02", 0, "while a{y=1;}", "proc f() {\n  while a {\n    y = 1;\n  }\n  x=1; z=2;\n}"},
		{"proc f() {\n\twhile a {\n\t\tx=1;\n\t}\n}", "02", 1, "while a{y=1;}", "proc f() {\n\twhile a {\n\t\tx=1;\n\t}\n\twhile a {\n\t  y = 1;\n\t}\n}"},
		{"proc f() {\n\twhile a {\n\t\tx=1;\n\t}\n}", "0201", 1, "while a{y=1;}", "proc f() {\n\twhile a {\n\t\tx=1;\n\t\twhile a {\n\t\t  y = 1;\n\t\t}\n\t}\n}"},
		{"proc f() {\n \r x=1;\n}", "02", 0, "y=1;", "proc f() {\n \r y = 1;\n x=1;\n}"},
		{"proc f() {\n \r x=1;\n}", "02", 1, "y=1;", "proc f() {\n \r x=1;\n y = 1;\n}"},
		{"proc f(){}", "02", 0, "y=1;", "proc f(){ y = 1;}"},
		{"proc f(){ # c\n}", "02", 0, "y=1;", "proc f(){ y = 1; # c\n}"},
		{"proc f()\n\t{\n\t}", "02", 0, "while a{y=1;}", "proc f()\n\t{ while a {\n\t  y = 1;\n\t}\n\t}"},
		{"  proc f() {}", "02", 0, "while a{y=1;}", "  proc f() { while a {\n    y = 1;\n  }}"},
		{"proc f() {\n  if a { } else { }\n}", "0201", 0, "y=1;", "proc f() {\n  if a { y = 1; } else { }\n}"},
		{"proc f() {\n  if a { } else { }\n}", "0202", 0, "if b{}else{y=1;}", "proc f() {\n  if a { } else { if b {\n  } else {\n    y = 1;\n  } }\n}"},
		{"proc f() {\n  for i=1 to 2{x=1;}\n}", "0202", 0, "y=1;", "proc f() {\n  for i=1 to 2{y = 1; x=1;}\n}"},
		{"proc f() {\n  for i=1 to 2{x=1;}\n}", "0202", 1, "y=1;", "proc f() {\n  for i=1 to 2{x=1; y = 1;}\n}"},
		{"proc f() {# c\n# d\nx=1;\n}", "02", 0, "return;", "proc f() {# c\n# d\nreturn;\nx=1;\n}"},
	} {
		n, p, by := parse(t, x.s), path(x.path), part(t, x.by)
		m, _ := tree.Replace(n, p, x.index, x.index, by)
		r, e := layout.Insert(x.s, n, p, x.index, by)
		holds(t, x.s, r, e, x.want, m)
		if r.At != r.End {
			t.Error(r)
		}
	}
	s := "proc f(x){x=(x+1)*2;#c\n}"
	if got := show(layout.Insert(s, parse(t, s), path("02"), 0, part(t, "y=1;"))); got != `10 10 "y = 1; "` {
		t.Error(got)
	}
}

func TestInsertErrors(t *testing.T) {
	s := "proc f(){if a{}x=1;}"
	n := parse(t, s)
	do := part(t, "f();")
	for i, x := range []struct {
		path  []int
		index int
		by    api.Node
		want  string
	}{
		{path("1"), 9, n, "7"}, {path("0202"), 0, do, "5"}, {path("0203"), 0, do, "7"}, {[]int{-1}, 0, do, "7"},
		{nil, 0, do, "5"}, {path("0"), 0, do, "5"}, {path("00"), 0, do, "5"}, {path("020"), 0, do, "5"}, {path("021"), 9, do, "5"},
		{path("02"), 9, part(t, "x"), "5"}, {path("02"), 0, api.Node{}, "5"}, {path("02"), 0, node(api.NodeBlock, ""), "5"}, {path("02"), 0, node(api.NodeDo, "f", node(api.NodeError, "")), "5"}, {path("02"), 0, n, "5"},
		{path("02"), 3, do, "2"}, {path("02"), -1, do, "2"}, {path("0201"), 1, do, "2"}, {path("0201"), -1 << 63, do, "2"}, {path("0201"), 1<<63 - 1, do, "2"},
	} {
		if got := show(layout.Insert(s, n, x.path, x.index, x.by)); got != x.want {
			t.Error(i, got)
		}
	}
}

// P6.5

func TestDelete(t *testing.T) {
	for _, x := range []struct {
		s, path string
		index   int
		want    string
	}{
		{"proc f(x){x=(x+1)*2;#c\n}", "02", 0, "proc f(x){#c\n}"},
		{"proc f() {\n  x=1;\n  y=2;\n}", "02", 0, "proc f() {\n  y=2;\n}"},
		{"proc f() {\n  x=1;\n  y=2;\n}", "02", 1, "proc f() {\n  x=1;\n}"},
		{"proc f() {\n  x=1; \t\r\n  y=2;\n}", "02", 0, "proc f() {\n  y=2;\n}"},
		{"proc f() {\n\t\r x=1;\n}", "02", 0, "proc f() {\n}"},
		{"proc f() {\n  x=1; # c\n}", "02", 0, "proc f() {\n   # c\n}"},
		{"proc f() {\n  x=1; y=2;\n}", "02", 0, "proc f() {\n   y=2;\n}"},
		{"proc f() {\n  x=1; y=2;\n}", "02", 1, "proc f() {\n  x=1; \n}"},
		{"proc f() {\n  x=1; }", "02", 0, "proc f() {\n   }"},
		{"proc f() { x=1;\n}", "02", 0, "proc f() { \n}"},
		{"proc f() {\n  # c\n  while a {\n    # d\n  }\n  y=2;\n}", "02", 0, "proc f() {\n  # c\n  y=2;\n}"},
		{"proc f() {\n  while a { x=1;\n  }\n}", "0201", 0, "proc f() {\n  while a { \n  }\n}"},
		{"proc f() {\n  while a { x=1;\n  }\n}", "02", 0, "proc f() {\n}"},
		{"proc f() {\n\n  x=1;\n\n}", "02", 0, "proc f() {\n\n\n}"},
		{"proc f() {\n  y=1; x\n=2;\n}", "02", 0, "proc f() {\n   x\n=2;\n}"},
		{"proc f(){x=1;y=2;z=3;}", "02", 1, "proc f(){x=1;z=3;}"},
		{"proc f(){if a{}else{\nif b{}\n}}", "0202", 0, "proc f(){if a{}else{\n}}"},
		{"proc f(){if a{}else{\n\nif b{}\nreturn;}}", "0202", 1, "proc f(){if a{}else{\n\nif b{}\n}}"},
	} {
		n, p := parse(t, x.s), path(x.path)
		m, _ := tree.Replace(n, p, x.index, x.index+1)
		r, e := layout.Delete(x.s, n, p, x.index)
		holds(t, x.s, r, e, x.want, m)
		if r.Text != "" {
			t.Error(r)
		}
	}
	s := "proc f(x){x=(x+1)*2;#c\n}"
	if got := show(layout.Delete(s, parse(t, s), path("02"), 0)); got != `10 20 ""` {
		t.Error(got)
	}
}

func TestDeleteErrors(t *testing.T) {
	s := "proc f(){if a{}x=1;}"
	n := parse(t, s)
	for i, x := range []struct {
		path  []int
		index int
		want  string
	}{
		{path("1"), 0, "7"}, {[]int{-1}, 0, "7"}, {path("0203"), 0, "7"},
		{nil, 0, "5"}, {path("0"), 0, "5"}, {path("00"), -1, "5"}, {path("020"), 0, "5"}, {path("021"), 9, "5"}, {path("0202"), 0, "5"},
		{path("02"), 2, "2"}, {path("02"), -1, "2"}, {path("0201"), 0, "2"}, {path("02"), -1 << 63, "2"}, {path("02"), 1<<63 - 1, "2"},
	} {
		if got := show(layout.Delete(s, n, x.path, x.index)); got != x.want {
			t.Error(i, got)
		}
	}
}

// Arguments stay as they are.

func TestArgumentsStay(t *testing.T) {
	s := "proc f(){x=(1+a)*2;if a{}}"
	n, by, p := parse(t, s), part(t, "if x<1{y=2;}"), path("020")
	layout.Replace(s, n, p, by)
	layout.Replace(s, n, path("02010"), part(t, "x"))
	layout.Word(s, n, path("0201"), "+")
	layout.Insert(s, n, path("02"), 0, by)
	layout.Delete(s, n, path("02"), 0)
	one, _ := layout.Own(s, n, 1)
	two, _ := layout.Own(s, n, 1)
	one[0].At = 99
	if !reflect.DeepEqual(n, parse(t, s)) || !reflect.DeepEqual(by, part(t, "if x<1{y=2;}")) || !slices.Equal(p, path("020")) || two[0].At != 0 {
		t.Error("something has changed")
	}
	if s, e := printer.Format(n); s == "" || e != api.OK {
		t.Error(s, e)
	}
}
