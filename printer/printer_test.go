package printer_test

import (
	"reflect"
	"strings"
	"testing"
	"time"

	"assessor/api"
	"assessor/parser"
	"assessor/printer"
	"assessor/tree"
)

func node(kind int, text string, kids ...api.Node) api.Node {
	return api.Node{Kind: kind, Text: text, Kids: kids}
}

// program, expression and statement return the trees of texts.
func program(t *testing.T, s string) api.Node { return read(t, s, parser.Parse) }

func expression(t *testing.T, s string) api.Node { return read(t, s, parser.Expression) }

func statement(t *testing.T, s string) api.Node { return read(t, s, parser.Statement) }

func read(t *testing.T, s string, parse func(string) (api.Node, []api.Diagnostic, api.Errno)) api.Node {
	t.Helper()
	n, l, e := parse(s)
	if len(l) > 0 || e != api.OK {
		t.Fatalf("%q: %v %v", s, l, e)
	}
	return n
}

// P5.1

func TestFormat(t *testing.T) {
	for _, x := range [][2]string{
		{"", ""},
		{" # nothing\n", ""},
		{"proc f(x){if(x<1){x=(1+x)*-2;}}", "proc f(x) {\n  if x < 1 {\n    x = (1 + x) * -2;\n  }\n}\n"},
		{"proc f ( ) { }", "proc f() {\n}\n"},
		{"proc f():int{} proc g(): bool{} proc h():int[08]{} proc i():point{}", "proc f(): int {\n}\nproc g(): bool {\n}\nproc h(): int[8] {\n}\nproc i(): point {\n}\n"},
		{"proc f(a,b:int,var c,var d:int [ 3 ]){}", "proc f(a, b: int, var c, var d: int[3]) {\n}\n"},
		{"record p{x:int}record q{x:int,\ny:bool # c\n}", "record p { x: int }\nrecord q { x: int, y: bool }\n"},
		{"proc f(){x=1;y[2]=3;z.a=b;}", "proc f() {\n  x = 1;\n  y[2] = 3;\n  z.a = b;\n}\n"},
		{"proc f(){var x=1;var y:int=2;var z:int[2]=[1,2];var p:point=point(1);}", "proc f() {\n  var x = 1;\n  var y: int = 2;\n  var z: int[2] = [1, 2];\n  var p: point = point(1);\n}\n"},
		{"proc f(){return;return x;return(x);assert x;assert(x);g();g(x,1);}", "proc f() {\n  return;\n  return x;\n  return x;\n  assert x;\n  assert x;\n  g();\n  g(x, 1);\n}\n"},
		{"proc f(){if a{}if b{}else{}if c{}else if d{}if e{}else if f{}else{}}", "proc f() {\n  if a {\n  }\n  if b {\n  } else {\n  }\n  if c {\n  } else if d {\n  }\n  if e {\n  } else if f {\n  } else {\n  }\n}\n"},
		{"proc f(){while a{while b{x=1;}y=2;}for i=1to n-1{for j=i to 3{}}}", "proc f() {\n  while a {\n    while b {\n      x = 1;\n    }\n    y = 2;\n  }\n  for i = 1 to n - 1 {\n    for j = i to 3 {\n    }\n  }\n}\n"},
		{"proc f(){if a{x=1;}else if b{if c{y=2;}}else{z=3;}}", "proc f() {\n  if a {\n    x = 1;\n  } else if b {\n    if c {\n      y = 2;\n    }\n  } else {\n    z = 3;\n  }\n}\n"},
	} {
		if s, e := printer.Format(program(t, x[0])); s != x[1] || e != api.OK {
			t.Errorf("%q: %q %v", x[0], s, e)
		}
	}
}

func TestExpression(t *testing.T) {
	for _, x := range [][2]string{
		{"x", "x"}, {"007", "7"}, {"true", "true"}, {"false", "false"},
		{"a [ 1+i ]", "a[1 + i]"}, {"a[(i)]", "a[i]"}, {"p . x", "p.x"}, {"len ( a )", "len(a)"},
		{"[ 1 ]", "[1]"}, {"[1,(2),a or b]", "[1, 2, a or b]"}, {"f ( )", "f()"}, {"f(1,2,x<y)", "f(1, 2, x < y)"},
		{"-x", "-x"}, {"- - x", "--x"}, {"not  x", "not x"}, {"not not(x)", "not not x"}, {"-(1)", "-1"},
		{"not(a and b)", "not (a and b)"}, {"not(a or b)", "not (a or b)"}, {"not(a<b)", "not a < b"}, {"not(a+b)", "not a + b"}, {"not(-a)", "not -a"},
		{"-(a*b)", "-(a * b)"}, {"-(a+b)", "-(a + b)"}, {"-(not a)", "-(not a)"}, {"-(a==b)", "-(a == b)"}, {"-a*b", "-a * b"}, {"-(a[1])", "-a[1]"}, {"-(f(x))", "-f(x)"},
		{"a-b-c", "a - b - c"}, {"(a-b)-c", "a - b - c"}, {"a-(b-c)", "a - (b - c)"}, {"a+(b+c)", "a + (b + c)"},
		{"a*(b*c)", "a * (b * c)"}, {"a/b*c%d", "a / b * c % d"}, {"a*b+c*d", "a * b + c * d"}, {"(a+b)*(c-d)", "(a + b) * (c - d)"}, {"a+(b*c)", "a + b * c"}, {"a*-b", "a * -b"}, {"(-a)%b", "-a % b"},
		{"a or b or c", "a or b or c"}, {"a or(b or c)", "a or (b or c)"}, {"a or(b and c)", "a or b and c"}, {"(a or b)and c", "(a or b) and c"}, {"a and(b or c)", "a and (b or c)"}, {"a and(b and c)", "a and (b and c)"}, {"a and(not b)", "a and not b"}, {"(not a)and b", "not a and b"}, {"(not a)or b", "not a or b"},
		{"(a<b)==(c<d)", "(a < b) == (c < d)"}, {"(a==b)==c", "(a == b) == c"}, {"a!=(b>=c)", "a != (b >= c)"}, {"(not a)==b", "(not a) == b"}, {"a==(not b)", "a == (not b)"}, {"(a+b)<(c+d)", "a + b < c + d"}, {"(a and b)==c", "(a and b) == c"}, {"a>(b or c)", "a > (b or c)"}, {"a<=b", "a <= b"},
		{"a+(not b)", "a + (not b)"}, {"(not a)*b", "(not a) * b"}, {"(a<b)and(c>d)", "a < b and c > d"}, {"(a<b)+c", "(a < b) + c"},
		{"[-x,not y]", "[-x, not y]"}, {"f((a or b),(-1))", "f(a or b, -1)"},
	} {
		if s, e := printer.Expression(expression(t, x[0])); s != x[1] || e != api.OK {
			t.Errorf("%q: %q %v", x[0], s, e)
		}
	}
}

func TestWrongShapes(t *testing.T) {
	name, none := node(api.NodeName, "x"), node(api.NodeNone, "")
	broken, _, _ := parser.Parse("proc f(){x=;}")
	for i, n := range []api.Node{{}, broken, node(api.NodeError, ""), node(api.NodeBlock, ""), node(api.NodeParameters, ""), node(api.NodeType, "int"), node(api.NodeArrayType, "3"),
		node(api.NodeField, "x", node(api.NodeType, "int")), node(api.NodeParameter, "x", none), node(api.NodeVarParameter, "x", none), node(api.NodeRecord, "p", node(api.NodeField, "x", node(api.NodeType, "int"))),
		node(api.NodeProcedure, "f", node(api.NodeParameters, ""), none, node(api.NodeBlock, "")),
		node(api.NodeBinary, "+", name), node(api.NodeBinary, "&", name, name), node(api.NodeUnary, "+", name), node(api.NodeNumber, "01"), node(api.NodeName, "if"), node(api.NodeAssign, "", name), node(-1, ""), node(30, ""),
	} {
		if s, e := printer.Format(n); s != "" || e != api.ErrArg {
			t.Error(i, s, e)
		}
		if s, e := printer.Expression(n); s != "" || e != api.ErrArg {
			t.Error(i, s, e)
		}
		if s, e := printer.Statement(n, 0); s != "" || e != api.ErrArg {
			t.Error(i, s, e)
		}
	}
	s, e := printer.Format(name)
	s2, e2 := printer.Expression(statement(t, "x=1;"))
	s3, e3 := printer.Statement(name, 0)
	s4, e4 := printer.Statement(program(t, ""), 0)
	if s+s2+s3+s4 != "" || e != api.ErrArg || e2 != api.ErrArg || e3 != api.ErrArg || e4 != api.ErrArg {
		t.Error(s, s2, s3, s4, e, e2, e3, e4)
	}
}

// list returns a list of numbers whose canonical text has a number of bytes.
func list(size int) api.Node {
	n := node(api.NodeList, "")
	for size -= len("[]"); size > 5; size -= len("1, ") {
		n.Kids = append(n.Kids, node(api.NodeNumber, "1"))
	}
	n.Kids = append(n.Kids, node(api.NodeNumber, "12345"[:size]))
	return n
}

func TestLimit(t *testing.T) {
	for _, more := range []int{0, 1, 2, 1000, 100000} {
		want, ok := api.OK, more == 0
		if !ok {
			want = api.ErrTooLarge
		}
		check := func(what string, s string, e api.Errno) {
			if e != want || ok && len(s) != api.MaxSource || !ok && s != "" {
				t.Error(what, more, len(s), e)
			}
		}
		s, e := printer.Expression(list(api.MaxSource + more))
		check("expression", s, e)
		s, e = printer.Statement(node(api.NodeReturn, "", list(api.MaxSource-len("return ;")+more)), api.MaxTreeDepth)
		check("statement", s, e)
		assert := node(api.NodeAssert, "", list(api.MaxSource-len("proc f() {\n  assert ;\n}\n")+more))
		none := node(api.NodeNone, "")
		s, e = printer.Format(node(api.NodeProgram, "", node(api.NodeProcedure, "f", node(api.NodeParameters, ""), none, node(api.NodeBlock, "", assert))))
		check("program", s, e)
	}
	if s, e := printer.Statement(node(api.NodeReturn, "", list(api.MaxSource)), -1); s != "" || e != api.ErrRange {
		t.Error(s, e)
	}
}

// TestHugeTrees holds that trees whose text is far too long are not written at length.
func TestHugeTrees(t *testing.T) {
	start := time.Now()
	n := statement(t, "x=1;")
	for range 1 << 14 {
		n = node(api.NodeWhile, "", node(api.NodeName, "x"), node(api.NodeBlock, "", n))
	}
	if s, e := printer.Statement(n, 0); s != "" || e != api.ErrTooLarge {
		t.Error(len(s), e)
	}
	e := node(api.NodeName, "x")
	for range 1 << 14 {
		e = node(api.NodeUnary, "-", e)
	}
	if s, err := printer.Expression(e); s != "" || err != api.ErrTooLarge {
		t.Error(len(s), err)
	}
	wide := node(api.NodeBlock, "")
	for range 1 << 18 {
		wide.Kids = append(wide.Kids, node(api.NodeDo, "f"))
	}
	for range 500 {
		wide = node(api.NodeBlock, "", node(api.NodeWhile, "", node(api.NodeName, "x"), wide))
	}
	if s, err := printer.Statement(node(api.NodeWhile, "", node(api.NodeName, "x"), wide), 0); s != "" || err != api.ErrTooLarge {
		t.Error(len(s), err)
	}
	if d := time.Since(start); d > 20*time.Second {
		t.Error(d)
	}
}

// P5.2

func TestStatement(t *testing.T) {
	for _, x := range []struct {
		s     string
		depth int
		want  string
	}{
		{"x=1;", 0, "x = 1;"},
		{"x=1;", 5, "x = 1;"},
		{"f();", api.MaxTreeDepth, "f();"},
		{"return;", 1, "return;"},
		{"while a{}", 0, "while a {\n}"},
		{"while a{}", 1, "while a {\n  }"},
		{"while a{x=1;}", 2, "while a {\n      x = 1;\n    }"},
		{"if a{x=1;}else if b{}else{return 1;}", 1, "if a {\n    x = 1;\n  } else if b {\n  } else {\n    return 1;\n  }"},
		{"for i=1 to 2{for j=i to 3{var x:int=1;}}", 1, "for i = 1 to 2 {\n    for j = i to 3 {\n      var x: int = 1;\n    }\n  }"},
		{"while a{}", api.MaxTreeDepth, "while a {\n" + strings.Repeat("  ", 128) + "}"},
	} {
		if s, e := printer.Statement(statement(t, x.s), x.depth); s != x.want || e != api.OK {
			t.Errorf("%q: %q %v", x.s, s, e)
		}
	}
	for _, depth := range []int{-1, -1 << 63, api.MaxTreeDepth + 1, 1<<63 - 1} {
		if s, e := printer.Statement(statement(t, "x=1;"), depth); s != "" || e != api.ErrRange {
			t.Error(depth, s, e)
		}
		if s, e := printer.Statement(node(api.NodeName, "x"), depth); s != "" || e != api.ErrArg {
			t.Error(depth, s, e)
		}
	}
}

// P5.3

// levels are the words of the levels from 1 on.
var levels = []string{"or", "and", "not", "== != < <= > >=", "+ -", "* / %", "-"}

func TestLevel(t *testing.T) {
	words := strings.Fields("or and not == != < <= > >= + - * / % = x 1 true => !")
	for kind := -2; kind < 40; kind++ {
		for _, word := range append(words, "", " ") {
			want := 8
			for i, l := range levels {
				unary := i == 2 || i == 6
				if word != "" && strings.Contains(" "+l+" ", " "+word+" ") && (kind == api.NodeUnary && unary || kind == api.NodeBinary && !unary) {
					want = i + 1
				}
			}
			if kind < api.NodeName || kind > api.NodeBinary {
				want = 0
			}
			if l := printer.Level(node(kind, word)); l != want {
				t.Error(kind, word, l)
			}
		}
	}
	// Neither kids nor places matter.
	if printer.Level(api.Node{Kind: api.NodeBinary, Text: "+", At: -5, End: -9, Kids: []api.Node{{}, {}, {}}}) != 5 || printer.Level(api.Node{}) != 0 {
		t.Error("kids matter")
	}
}

func TestParentheses(t *testing.T) {
	var all []api.Node
	for kind := -1; kind < 31; kind++ {
		for _, word := range strings.Fields("or and not == < >= + - * % = x") {
			all = append(all, node(kind, word))
		}
	}
	for _, parent := range all {
		for index := -2; index < 5; index++ {
			least := 1
			switch l := printer.Level(parent); {
			case parent.Kind == api.NodeUnary && parent.Text == "not":
				least = 3
			case parent.Kind == api.NodeUnary && parent.Text == "-":
				least = 7
			case parent.Kind == api.NodeBinary && l == 4:
				least = 5
			case parent.Kind == api.NodeBinary && l < 8 && index == 0:
				least = l
			case parent.Kind == api.NodeBinary && l < 8:
				least = l + 1
			}
			for _, kid := range all {
				l := printer.Level(kid)
				if printer.Parentheses(parent, index, kid) != (l > 0 && l < least) {
					t.Error(parent, index, kid)
				}
			}
		}
	}
}

func TestParenthesesOfOperands(t *testing.T) {
	minus, sum, x := expression(t, "-x"), expression(t, "a+b"), node(api.NodeName, "x")
	for i, y := range []struct {
		parent api.Node
		index  int
		kid    api.Node
		want   bool
	}{
		{expression(t, "a-b"), 0, sum, false},
		{expression(t, "a-b"), 1, sum, true},
		{expression(t, "a-b"), 2, sum, true},
		{expression(t, "a-b"), -1, sum, true},
		{expression(t, "a-b"), -1, minus, false},
		{expression(t, "a==b"), 0, expression(t, "a<b"), true},
		{expression(t, "a==b"), 1, expression(t, "a<b"), true},
		{expression(t, "a==b"), 0, sum, false},
		{expression(t, "-a"), 0, sum, true},
		{expression(t, "-a"), 7, sum, true},
		{expression(t, "-a"), 0, minus, false},
		{expression(t, "not a"), 0, expression(t, "a and b"), true},
		{expression(t, "not a"), 0, expression(t, "not b"), false},
		{expression(t, "not a"), 0, expression(t, "a<b"), false},
		{expression(t, "f(a)"), 0, expression(t, "a or b"), false},
		{expression(t, "a[b]"), 1, expression(t, "a or b"), false},
		{statement(t, "x=1;"), 1, expression(t, "a or b"), false},
		{expression(t, "-a"), 0, statement(t, "x=1;"), false},
		{expression(t, "-a"), 0, api.Node{}, false},
		{node(api.NodeBinary, "?"), 1, expression(t, "a or b"), false},
		{node(api.NodeUnary, "?"), 0, expression(t, "a or b"), false},
		{expression(t, "a*b"), 1, x, false},
	} {
		if got := printer.Parentheses(y.parent, y.index, y.kid); got != y.want {
			t.Error(i, got)
		}
	}
}

// Arguments stay as they are.

func TestArgumentsStay(t *testing.T) {
	n := program(t, "record p{x:int}proc f(a,var b:int):int{if not(a<b){x=-(1+x);}else{return f(1,[2],b.x,b[1],len(b));}}")
	before := tree.Bare(n)
	places := program(t, "record p{x:int}proc f(a,var b:int):int{if not(a<b){x=-(1+x);}else{return f(1,[2],b.x,b[1],len(b));}}")
	one, _ := printer.Format(n)
	two, _ := printer.Format(before)
	if one != two || !reflect.DeepEqual(n, places) {
		t.Error(one, two)
	}
}
