package parser_test

import (
	"fmt"
	"math/rand"
	"slices"
	"strings"
	"testing"

	"assessor/api"
	"assessor/parser"
	"assessor/tree"
)

// show returns a tree in a short form, without places.
func show(n api.Node) string { return render(n, false) }

// showPlaces returns a tree in a short form, with places.
func showPlaces(n api.Node) string { return render(n, true) }

func render(n api.Node, places bool) string {
	words := strings.Fields("none error program record field proc params param varparam type array block var assign if while for return assert do name index member len number bool list call unary binary")
	s := words[n.Kind]
	if n.Text != "" {
		s += ":" + n.Text
	}
	if places {
		s += fmt.Sprintf("[%d %d]", n.At, n.End)
	}
	if len(n.Kids) == 0 {
		return s
	}
	var l []string
	for _, k := range n.Kids {
		l = append(l, render(k, places))
	}
	return s + "(" + strings.Join(l, " ") + ")"
}

// problems returns diagnostics in a short form: B byte, N number, L long, E expected, X expression, S statement, D declaration.
func problems(l []api.Diagnostic) string {
	var words []string
	for _, d := range l {
		w := fmt.Sprintf("%c%d-%d", "?BNLEXSD"[d.Code], d.At, d.End)
		if d.Text != "" {
			w += " " + d.Text
		}
		if len(d.Chain) != 0 {
			w += " chain"
		}
		words = append(words, w)
	}
	return strings.Join(words, "; ")
}

// example is a text with its tree and what is wrong with it.
type example struct{ text, tree, wrong string }

func compare(t *testing.T, read func(string) (api.Node, []api.Diagnostic, api.Errno), show func(api.Node) string, l []example) {
	t.Helper()
	for _, x := range l {
		n, d, e := read(x.text)
		if got := show(n); got != x.tree || e != api.OK {
			t.Errorf("%q: %s %v", x.text, got, e)
		}
		if got := problems(d); got != x.wrong {
			t.Errorf("%q: %s", x.text, got)
		}
	}
}

// P4.1

func TestExamplesOfTheChapter(t *testing.T) {
	compare(t, parser.Parse, showPlaces, []example{
		{"proc f(x){return x+1;}", "program[0 22](proc:f[0 22](params[6 9](param:x[7 8](none[8 8])) none[9 9] block[9 22](return[10 21](binary:+[17 20](name:x[17 18] number:1[19 20])))))", ""},
		{"proc f(){x=;}", "program[0 13](proc:f[0 13](params[6 8] none[8 8] block[8 13](assign[9 12](name:x[9 10] error[11 11]))))", "X11-12"},
		{"proc f(){x=1}", "program[0 13](proc:f[0 13](params[6 8] none[8 8] block[8 13](assign[9 12](name:x[9 10] number:1[11 12]))))", "E12-13 ;"},
	})
}

func TestDeclarations(t *testing.T) {
	compare(t, parser.Parse, show, []example{
		{"", "program", ""},
		{" # nothing\n", "program", ""},
		{"record p { x: int, y: bool }", "program(record:p(field:x(type:int) field:y(type:bool)))", ""},
		{"proc f() {} record r { a: int } proc g() {}", "program(proc:f(params none block) record:r(field:a(type:int)) proc:g(params none block))", ""},
		{"proc f(a, var b: int, c: int[03], d: p): bool {}", "program(proc:f(params(param:a(none) varparam:b(type:int) param:c(array:3) param:d(type:p)) type:bool block))", ""},
		{"proc f(): int[0] {}", "program(proc:f(params array:0 block))", ""},
		{"proc f(): int[00] {}", "program(proc:f(params array:0 block))", ""},
		{"proc f(): r {}", "program(proc:f(params type:r block))", ""},
		{"proc f(var a) {}", "program(proc:f(params(varparam:a(none)) none block))", ""},
	})
}

func TestBrokenDeclarations(t *testing.T) {
	compare(t, parser.Parse, show, []example{
		{"record", "program(record(field(error)))", "E6-6 name"},
		{"record r", "program(record:r(field(error)))", "E8-8 {"},
		{"record r {", "program(record:r(field(error)))", "E10-10 name"},
		{"record r { }", "program(record:r(field(error)))", "E11-12 name"},
		{"record r { a", "program(record:r(field:a(error)))", "E12-12 :"},
		{"record r { a:", "program(record:r(field:a(error)))", "E13-13 type"},
		{"record r { a: int", "program(record:r(field:a(type:int)))", "E17-17 }"},
		{"record r a: int }", "program(record:r(field:a(type:int)))", "E9-10 {"},
		{"record { a: int }", "program(record(field:a(type:int)))", "E7-8 name"},
		{"record r { : int }", "program(record:r(field(type:int)))", "E11-12 name"},
		{"record r { a int }", "program(record:r(field:a(type:int)))", "E13-16 :"},
		{"record r { a: b }", "program(record:r(field:a(error)) error)", "E14-15 type"},
		{"record r { a: b, c: int }", "program(record:r(field:a(error)) error)", "E14-15 type"},
		{"record r { a: int[3] }", "program(record:r(field:a(type:int)) error)", "E17-18 }"},
		{"record r { a: int, }", "program(record:r(field:a(type:int) field(error)))", "E19-20 name"},
		{"record r { a:, b: bool }", "program(record:r(field:a(error) field:b(type:bool)))", "E13-14 type"},
		{"record r { a: int } }", "program(record:r(field:a(type:int)) error)", "D20-21"},
		{"proc", "program(proc(params(param(none)) none block))", "E4-4 name"},
		{"proc f", "program(proc:f(params(param(none)) none block))", "E6-6 ("},
		{"proc f(", "program(proc:f(params(param(none)) none block))", "E7-7 name"},
		{"proc f()", "program(proc:f(params none block))", "E8-8 {"},
		{"proc f() {", "program(proc:f(params none block))", "E10-10 }"},
		{"proc f) {}", "program(proc:f(params none block))", "E6-7 ("},
		{"proc () {}", "program(proc(params none block))", "E5-6 name"},
		{"proc f x, y) {}", "program(proc:f(params(param:x(none) param:y(none)) none block))", "E7-8 ("},
		{"proc f(x {}", "program(proc:f(params(param:x(none)) none block))", "E9-10 )"},
		{"proc f(x y) {}", "program(proc:f(params(param:x(none)) none block) error)", "E9-10 )"},
		{"proc f(x,) {}", "program(proc:f(params(param:x(none) param(none)) none block))", "E9-10 name"},
		{"proc f(,) {}", "program(proc:f(params(param(none) param(none)) none block))", "E7-8 name; E8-9 name"},
		{"proc f(: int) {}", "program(proc:f(params(param(type:int)) none block))", "E7-8 name"},
		{"proc f(var) {}", "program(proc:f(params(varparam(none)) none block))", "E10-11 name"},
		{"proc f(if) {}", "program(proc:f(params(param(none)) none block) error)", "E7-9 name"},
		{"proc f(a:) {}", "program(proc:f(params(param:a(error)) none block))", "E9-10 type"},
		{"proc f(a: int[]) {}", "program(proc:f(params(param:a(array)) none block))", "E14-15 number"},
		{"proc f(a: int[3) {}", "program(proc:f(params(param:a(array:3)) none block))", "E15-16 ]"},
		{"proc f(a: bool[3]) {}", "program(proc:f(params(param:a(type:bool)) none block) error)", "E14-15 )"},
		{"proc f(): {}", "program(proc:f(params error block))", "E10-11 type"},
		{"proc f(): 3 {}", "program(proc:f(params error block) error)", "E10-11 type"},
		{"proc f() return 1; } proc g() {}", "program(proc:f(params none block) error proc:g(params none block))", "E9-15 {"},
		{"x = 1; proc f() {} y record r { a: int } z", "program(error proc:f(params none block) error record:r(field:a(type:int)) error)", "D0-1; D19-20; D41-42"},
		{"var x = 1;", "program(error)", "D0-3"},
		{"proc f() {}}}", "program(proc:f(params none block) error)", "D11-12"},
		{"proc f() { proc g() {}", "program(proc:f(params none block) proc:g(params none block))", "E11-15 }"},
		{"proc f() { if a { record", "program(proc:f(params none block(if(name:a block none))) record(field(error)))", "E18-24 }; E24-24 name"},
	})
}

func TestTokensThatAreWrong(t *testing.T) {
	compare(t, parser.Parse, show, []example{
		{"$", "program", "B0-1"},
		{"$ proc ! f() {} &", "program(proc:f(params none block))", "B0-1; B7-8; B16-17"},
		{"proc f() $ x", "program(proc:f(params none block) error)", "B9-10; E11-12 {"},
		{"proc seventeen_letter_() {}", "program(proc:seventeen_letter_(params none block))", "L5-22"},
		{"proc sixteen_letters_() {}", "program(proc:sixteen_letters_(params none block))", ""},
		{"proc f(): int[1000000000] {}", "program(proc:f(params array:1000000000 block))", "N14-24"},
		{"proc f(): int[0000000001] {}", "program(proc:f(params array:1 block))", "N14-24"},
		{"proc f(): int[000000001] {}", "program(proc:f(params array:1 block))", ""},
		{"proc 1234567890() {}", "program(proc(params(param(none)) none block) error)", "N5-15; E5-15 name"},
		{"x; $ proc f seventeen_letter_) {} $", "program(error proc:f(params(param:seventeen_letter_(none)) none block))", "D0-1; B3-4; L12-29; E12-29 (; B34-35"},
		{"seventeen_letter_", "program(error)", "L0-17; D0-17"},
	})
}

func TestLimit(t *testing.T) {
	long := strings.Repeat(" ", api.MaxSource)
	for i, read := range []func(string) (api.Node, []api.Diagnostic, api.Errno){parser.Parse, parser.Expression, parser.Statement} {
		for _, s := range []string{long + ";", long + "$", long + long} {
			if n, l, e := read(s); !tree.Same(n, api.Node{}) || n.End != 0 || len(l) != 0 || e != api.ErrTooLarge {
				t.Error(i, n, l, e)
			}
		}
		if n, _, e := read(long); e != api.OK || i == 0 && n.End != api.MaxSource {
			t.Error(i, n, e)
		}
	}
	for _, s := range []string{"(", "[", "-", "not ", "a[", "f(", "{", "if a {", "if a {} else ", "proc f(){", "len(", ",", ";", "$", "x;", "return "} {
		s = strings.Repeat(s, api.MaxSource/len(s))
		for i, read := range []func(string) (api.Node, []api.Diagnostic, api.Errno){parser.Parse, parser.Expression, parser.Statement} {
			n, l, e := read(s)
			if e != api.OK || !inPlace(n) {
				t.Error(i, s[:1], e, len(l))
			}
		}
	}
}

// P4.2

func TestExpressions(t *testing.T) {
	compare(t, parser.Expression, show, []example{
		{"x", "name:x", ""},
		{"007", "number:7", ""},
		{"000", "number:0", ""},
		{"0", "number:0", ""},
		{"100", "number:100", ""},
		{"true", "bool:true", ""},
		{"false", "bool:false", ""},
		{"a[i+1]", "index(name:a binary:+(name:i number:1))", ""},
		{"p.x", "member:x(name:p)", ""},
		{"f()", "call:f", ""},
		{"f(1, x)", "call:f(number:1 name:x)", ""},
		{"[1, x]", "list(number:1 name:x)", ""},
		{"len(a)", "len(name:a)", ""},
		{"(x)", "name:x", ""},
		{"((1 + 2)) * 3", "binary:*(binary:+(number:1 number:2) number:3)", ""},
		{"a or b and not c == - d + e * f", "binary:or(name:a binary:and(name:b unary:not(binary:==(name:c binary:+(unary:-(name:d) binary:*(name:e name:f))))))", ""},
		{"a * b + c < d and e or f", "binary:or(binary:and(binary:<(binary:+(binary:*(name:a name:b) name:c) name:d) name:e) name:f)", ""},
		{"a - b + c", "binary:+(binary:-(name:a name:b) name:c)", ""},
		{"a - (b + c)", "binary:-(name:a binary:+(name:b name:c))", ""},
		{"a / b * c % d", "binary:%(binary:*(binary:/(name:a name:b) name:c) name:d)", ""},
		{"a or b or c", "binary:or(binary:or(name:a name:b) name:c)", ""},
		{"a and b and c", "binary:and(binary:and(name:a name:b) name:c)", ""},
		{"not not a", "unary:not(unary:not(name:a))", ""},
		{"not a and b", "binary:and(unary:not(name:a) name:b)", ""},
		{"- - a * b", "binary:*(unary:-(unary:-(name:a)) name:b)", ""},
		{"a - -b", "binary:-(name:a unary:-(name:b))", ""},
		{"a == b", "binary:==(name:a name:b)", ""},
		{"a != b", "binary:!=(name:a name:b)", ""},
		{"a <= b", "binary:<=(name:a name:b)", ""},
		{"a > b", "binary:>(name:a name:b)", ""},
		{"a >= b", "binary:>=(name:a name:b)", ""},
		{"(a < b) == (c < d)", "binary:==(binary:<(name:a name:b) binary:<(name:c name:d))", ""},
		{"a[b[c]]", "index(name:a index(name:b name:c))", ""},
	})
}

func TestBrokenExpressions(t *testing.T) {
	compare(t, parser.Expression, show, []example{
		{"", "error", "X0-0"},
		{"  ", "error", "X2-2"},
		{"$", "error", "B0-1; X1-1"},
		{"x $", "name:x", "B2-3"},
		{"1234567890", "number:1234567890", "N0-10"},
		{"a_very_long_name_", "name:a_very_long_name_", "L0-17"},
		{"+", "binary:+(error error)", "X0-1; X1-1"},
		{"a +", "binary:+(name:a error)", "X3-3"},
		{"+ b", "binary:+(error name:b)", "X0-1"},
		{"a + * b", "binary:+(name:a binary:*(error name:b))", "X4-5"},
		{"a or or b", "binary:or(binary:or(name:a error) name:b)", "X5-7"},
		{"a not b", "name:a", "E2-5 end"},
		{"a + not b", "binary:+(name:a error)", "X4-7; E4-7 end"},
		{"- not b", "unary:-(error)", "X2-5; E2-5 end"},
		{"a < b < c", "binary:<(name:a name:b)", "E6-7 end"},
		{"a == b != c", "binary:==(name:a name:b)", "E7-9 end"},
		{"a b", "name:a", "E2-3 end"},
		{"a $ b c", "name:a", "B2-3; E4-5 end"},
		{"(a", "name:a", "E2-2 )"},
		{"(", "error", "X1-1"},
		{"()", "error", "X1-2"},
		{")", "error", "X0-1; E0-1 end"},
		{"(a b)", "name:a", "E3-4 ); E3-4 end"},
		{"a[", "index(name:a error)", "X2-2"},
		{"a[1", "index(name:a number:1)", "E3-3 ]"},
		{"a[]", "index(name:a error)", "X2-3"},
		{"a[1][2]", "index(name:a number:1)", "E4-5 end"},
		{"p.", "member(name:p)", "E2-2 name"},
		{"p.1", "member(name:p)", "E2-3 name; E2-3 end"},
		{"p.x.y", "member:x(name:p)", "E3-4 end"},
		{"f(", "call:f(error)", "X2-2"},
		{"f(1", "call:f(number:1)", "E3-3 )"},
		{"f(,)", "call:f(error error)", "X2-3; X3-4"},
		{"f(1,)", "call:f(number:1 error)", "X4-5"},
		{"f(1 2)", "call:f(number:1)", "E4-5 ); E4-5 end"},
		{"f()()", "call:f", "E3-4 end"},
		{"f()[1]", "call:f", "E3-4 end"},
		{"[", "list(error)", "X1-1"},
		{"[]", "list(error)", "X1-2"},
		{"[1,]", "list(number:1 error)", "X3-4"},
		{"[1", "list(number:1)", "E2-2 ]"},
		{"len", "len(name)", "E3-3 ("},
		{"len a", "len(name:a)", "E4-5 (; E5-5 )"},
		{"len(", "len(name)", "E4-4 name"},
		{"len()", "len(name)", "E4-5 name"},
		{"len(1)", "len(name)", "E4-5 name; E4-5 end"},
		{"len(a", "len(name:a)", "E5-5 )"},
		{"len(a[1])", "len(name:a)", "E5-6 ); E5-6 end"},
		{"int", "error", "X0-3; E0-3 end"},
		{"x = 1", "name:x", "E2-3 end"},
		{"a !", "name:a", "B2-3"},
		{"a ! = b", "name:a", "B2-3; E4-5 end"},
		{"proc", "error", "X0-4; E0-4 end"},
		{"not", "unary:not(error)", "X3-3"},
		{"-", "unary:-(error)", "X1-1"},
	})
}

func TestStatements(t *testing.T) {
	compare(t, parser.Statement, show, []example{
		{"var x = 1;", "var:x(none number:1)", ""},
		{"var x: int = 1;", "var:x(type:int number:1)", ""},
		{"var x: int[2] = [1, 2];", "var:x(array:2 list(number:1 number:2))", ""},
		{"x = 1;", "assign(name:x number:1)", ""},
		{"a[i] = 1;", "assign(index(name:a name:i) number:1)", ""},
		{"p.x = 1;", "assign(member:x(name:p) number:1)", ""},
		{"if a {}", "if(name:a block none)", ""},
		{"if a {} else {}", "if(name:a block block)", ""},
		{"if a { x = 1; } else if b { } else { y = 2; f(); }", "if(name:a block(assign(name:x number:1)) if(name:b block block(assign(name:y number:2) do:f)))", ""},
		{"if a {} else if b {}", "if(name:a block if(name:b block none))", ""},
		{"while a { return; }", "while(name:a block(return(none)))", ""},
		{"for i = 0 to 9 { }", "for:i(number:0 number:9 block)", ""},
		{"return;", "return(none)", ""},
		{"return a;", "return(name:a)", ""},
		{"return 1;", "return(number:1)", ""},
		{"return true;", "return(bool:true)", ""},
		{"return false;", "return(bool:false)", ""},
		{"return not a;", "return(unary:not(name:a))", ""},
		{"return -a;", "return(unary:-(name:a))", ""},
		{"return len(a);", "return(len(name:a))", ""},
		{"return (a);", "return(name:a)", ""},
		{"return [a];", "return(list(name:a))", ""},
		{"assert a;", "assert(name:a)", ""},
		{"f();", "do:f", ""},
		{"f(1, a);", "do:f(number:1 name:a)", ""},
	})
}

func TestBrokenStatements(t *testing.T) {
	compare(t, parser.Statement, show, []example{
		{"var", "var(none error)", "E3-3 name"},
		{"var x", "var:x(none error)", "E5-5 ="},
		{"var x = 1", "var:x(none number:1)", "E9-9 ;"},
		{"var x 1;", "var:x(none number:1)", "E6-7 ="},
		{"var = 1;", "var(none number:1)", "E4-5 name"},
		{"var x: = 1;", "var:x(error number:1)", "E7-8 type"},
		{"var x: int[n] = 1;", "var:x(array name:n)", "E11-12 number; E12-13 ;; E12-13 end"},
		{"x", "assign(name:x error)", "E1-1 ="},
		{"x;", "assign(name:x error)", "E1-2 ="},
		{"x 1;", "assign(name:x number:1)", "E2-3 ="},
		{"x = ", "assign(name:x error)", "X4-4"},
		{"x = = 1;", "assign(name:x error)", "X4-5; E4-5 end"},
		{"x == 1;", "assign(name:x binary:==(error number:1))", "E2-4 ="},
		{"x + 1;", "assign(name:x binary:+(error number:1))", "E2-3 ="},
		{"x.y(1);", "assign(member:y(name:x) number:1)", "E3-4 ="},
		{"a[1;", "assign(index(name:a number:1) error)", "E3-4 ]"},
		{"f() = 1;", "do:f", "E4-5 ;; E4-5 end"},
		{"f(", "do:f(error)", "X2-2"},
		{"f(;", "do:f(error)", "X2-3"},
		{"f(a b);", "do:f(name:a)", "E4-5 ); E4-5 end"},
		{"f()", "do:f", "E3-3 ;"},
		{"if", "if(error block none)", "X2-2"},
		{"if a", "if(name:a block none)", "E4-4 {"},
		{"if a x = 1;", "if(name:a block none)", "E5-6 {; E5-6 end"},
		{"if a else {}", "if(name:a block block)", "E5-9 {"},
		{"if {}", "if(error block none)", "X3-4"},
		{"if a {} else", "if(name:a block block)", "E12-12 {"},
		{"if a {} else x = 1;", "if(name:a block block)", "E13-14 {; E13-14 end"},
		{"if a {} else while b {}", "if(name:a block block)", "E13-18 {; E13-18 end"},
		{"if a {} else if {}", "if(name:a block if(error block none))", "X16-17"},
		{"if a {", "if(name:a block none)", "E6-6 }"},
		{"if a { x = 1; proc", "if(name:a block(assign(name:x number:1)) none)", "E14-18 }; E14-18 end"},
		{"while", "while(error block)", "X5-5"},
		{"while a b {}", "while(name:a block)", "E8-9 {; E8-9 end"},
		{"for", "for(error error block)", "E3-3 name"},
		{"for i", "for:i(error error block)", "E5-5 ="},
		{"for i = 0", "for:i(number:0 error block)", "E9-9 to"},
		{"for i = 0 to", "for:i(number:0 error block)", "X12-12"},
		{"for i = 0 9 {}", "for:i(number:0 number:9 block)", "E10-11 to"},
		{"for i 0 to 9 {}", "for:i(number:0 number:9 block)", "E6-7 ="},
		{"for = 0 to 9 {}", "for(number:0 number:9 block)", "E4-5 name"},
		{"for i = to {}", "for:i(error error block)", "X8-10; X11-12"},
		{"return", "return(none)", "E6-6 ;"},
		{"return + 1;", "return(none)", "E7-8 ;; E7-8 end"},
		{"return 1", "return(number:1)", "E8-8 ;"},
		{"return if", "return(none)", "E7-9 ;; E7-9 end"},
		{"assert", "assert(error)", "X6-6"},
		{"assert;", "assert(error)", "X6-7"},
		{"f(); g();", "do:f", "E5-6 end"},
	})
}

func TestSkippedStatements(t *testing.T) {
	compare(t, parser.Statement, showPlaces, []example{
		{"", "error[0 0]", "S0-0"},
		{" $ ", "error[0 0]", "B1-2; S3-3"},
		{";", "error[0 1]", "S0-1"},
		{" ; x = 1;", "error[1 2]", "S1-2; E3-4 end"},
		{"}", "error[0 0]", "S0-1; E0-1 end"},
		{" proc f() {}", "error[0 0]", "S1-5; E1-5 end"},
		{"record", "error[0 0]", "S0-6; E0-6 end"},
		{"1 + x; y = 2;", "error[0 6]", "S0-1; E7-8 end"},
		{"{ x = 1; }", "error[0 8]", "S0-1; E9-10 end"},
		{"else { return; }", "error[0 6]", "S0-4; E7-13 end"},
		{"to x $ y", "error[0 8]", "S0-2; B5-6"},
		{"( }", "error[0 1]", "S0-1; E2-3 end"},
		{"( proc", "error[0 1]", "S0-1; E2-6 end"},
		{"( record", "error[0 1]", "S0-1; E2-8 end"},
		{"( var", "error[0 1]", "S0-1; E2-5 end"},
		{"( if", "error[0 1]", "S0-1; E2-4 end"},
		{"( while", "error[0 1]", "S0-1; E2-7 end"},
		{"( for", "error[0 1]", "S0-1; E2-5 end"},
		{"( return", "error[0 1]", "S0-1; E2-8 end"},
		{"( assert", "error[0 1]", "S0-1; E2-8 end"},
		{"( x else { to", "error[0 13]", "S0-1"},
		{"int x;", "error[0 6]", "S0-3"},
	})
	compare(t, parser.Parse, show, []example{
		{"proc f() { ; ;; x = 1; }", "program(proc:f(params none block(error error error assign(name:x number:1))))", "S11-12; S13-14; S14-15"},
		{"proc f() { 1 2 3; x = 1; }", "program(proc:f(params none block(error assign(name:x number:1))))", "S11-12"},
		{"proc f() { else { x = 1; } }", "program(proc:f(params none block(error)) error)", "S11-15; D27-28"},
		{"proc f() { = if a {} }", "program(proc:f(params none block(error if(name:a block none))))", "S11-12"},
		{"proc f() { x = 1 2; y = 3; }", "program(proc:f(params none block(assign(name:x number:1) error assign(name:y number:3))))", "E17-18 ;"},
		{"proc f() { x = 1 y = 2; }", "program(proc:f(params none block(assign(name:x number:1) assign(name:y number:2))))", "E17-18 ;"},
		{"proc f() { (; proc g() {}", "program(proc:f(params none block(error)) proc:g(params none block))", "S11-12; E14-18 }"},
		{"proc f() { ( record r { a: int }", "program(proc:f(params none block(error)) record:r(field:a(type:int)))", "S11-12; E13-19 }"},
		{"proc f() { (", "program(proc:f(params none block(error)))", "S11-12; E12-12 }"},
		{"proc f() { var x = 1 }", "program(proc:f(params none block(var:x(none number:1))))", "E21-22 ;"},
		{"proc f() { if a { x = ; y = ; }", "program(proc:f(params none block(if(name:a block(assign(name:x error) assign(name:y error)) none))))", "X22-23; X28-29; E31-31 }"},
	})
}

// Places of nodes.

func TestPlacesOfExpressions(t *testing.T) {
	compare(t, parser.Expression, showPlaces, []example{
		{" ( x ) ", "name:x[3 4]", ""},
		{"(a) + b", "binary:+[0 7](name:a[1 2] name:b[6 7])", ""},
		{"a + (b)", "binary:+[0 7](name:a[0 1] name:b[5 6])", ""},
		{"((a) + b) * c", "binary:*[0 13](binary:+[1 8](name:a[2 3] name:b[7 8]) name:c[12 13])", ""},
		{"((a)) - (b) - c", "binary:-[0 15](binary:-[0 11](name:a[2 3] name:b[9 10]) name:c[14 15])", ""},
		{"(a) < b and c", "binary:and[0 13](binary:<[0 7](name:a[1 2] name:b[6 7]) name:c[12 13])", ""},
		{"-(a)", "unary:-[0 4](name:a[2 3])", ""},
		{"not (a == b)", "unary:not[0 12](binary:==[5 11](name:a[5 6] name:b[10 11]))", ""},
		{"f( (a) , b )", "call:f[0 12](name:a[4 5] name:b[9 10])", ""},
		{"[ (a) ]", "list[0 7](name:a[3 4])", ""},
		{"a [ (i) ]", "index[0 9](name:a[0 1] name:i[5 6])", ""},
		{"p . x", "member:x[0 5](name:p[0 1])", ""},
		{"len ( a )", "len[0 9](name:a[6 7])", ""},
		{"  ", "error[0 0]", "X2-2"},
		{" + b", "binary:+[0 4](error[0 0] name:b[3 4])", "X1-2"},
		{"( + b)", "binary:+[1 5](error[1 1] name:b[4 5])", "X2-3"},
		{"() + b", "binary:+[0 6](error[1 1] name:b[5 6])", "X1-2"},
		{"a + ", "binary:+[0 3](name:a[0 1] error[3 3])", "X4-4"},
		{"- * b", "binary:*[0 5](unary:-[0 1](error[1 1]) name:b[4 5])", "X2-3"},
		{"len $ a", "len[0 7](name:a[6 7])", "B4-5; E6-7 (; E7-7 )"},
		{"len", "len[0 3](name[3 3])", "E3-3 ("},
		{"p . 1", "member[0 3](name:p[0 1])", "E4-5 name; E4-5 end"},
		{"f ( , a", "call:f[0 7](error[3 3] name:a[6 7])", "X4-5; E7-7 )"},
		{"(a $ ) # b", "name:a[1 2]", "B3-4"},
	})
}

func TestPlacesOfStatements(t *testing.T) {
	compare(t, parser.Statement, showPlaces, []example{
		{" return ; ", "return[1 9](none[7 7])", ""},
		{"return (a);", "return[0 11](name:a[8 9])", ""},
		{"if (a) {} else if b { } ", "if[0 23](name:a[4 5] block[7 9] if[15 23](name:b[18 19] block[20 23] none[23 23]))", ""},
		{"if a {} # c\n", "if[0 7](name:a[3 4] block[5 7] none[7 7])", ""},
		{"if a ", "if[0 4](name:a[3 4] block[4 4] none[4 4])", "E5-5 {"},
		{"if a else", "if[0 9](name:a[3 4] block[4 4] block[9 9])", "E5-9 {; E9-9 {"},
		{"x = (1)", "assign[0 7](name:x[0 1] number:1[5 6])", "E7-7 ;"},
		{"x = (1) ;", "assign[0 9](name:x[0 1] number:1[5 6])", ""},
		{"x = * 1;", "assign[0 8](name:x[0 1] binary:*[3 7](error[3 3] number:1[6 7]))", "X4-5"},
		{"var x : int [ 3 ] = 1 ;", "var:x[0 23](array:3[8 17] number:1[20 21])", ""},
		{"var x = 1;", "var:x[0 10](none[5 5] number:1[8 9])", ""},
		{"var x : = 1;", "var:x[0 12](error[7 7] number:1[10 11])", "E8-9 type"},
		{"for i = 0 to 9 {}", "for:i[0 17](number:0[8 9] number:9[13 14] block[15 17])", ""},
		{"f ( ) ;", "do:f[0 7]", ""},
		{"while a { ; }", "while[0 13](name:a[6 7] block[8 13](error[10 11]))", "S10-11"},
		{"assert a $", "assert[0 8](name:a[7 8])", "B9-10; E10-10 ;"},
	})
}

func TestPlacesOfDeclarations(t *testing.T) {
	compare(t, parser.Parse, showPlaces, []example{
		{" proc f ( x , var y : int ) : bool { } ", "program[0 39](proc:f[1 38](params[8 27](param:x[10 11](none[11 11]) varparam:y[14 25](type:int[22 25])) type:bool[30 34] block[35 38]))", ""},
		{"record r { x : int , y : bool } # c", "program[0 35](record:r[0 31](field:x[11 18](type:int[15 18]) field:y[21 29](type:bool[25 29])))", ""},
		{"proc f , x ) { }", "program[0 16](proc:f[0 16](params[6 12](param[6 6](none[6 6]) param:x[9 10](none[10 10])) none[12 12] block[13 16]))", "E7-8 ("},
		{"proc f { }", "program[0 10](proc:f[0 10](params[6 6](param[6 6](none[6 6])) none[6 6] block[7 10]))", "E7-8 ("},
		{"proc f(: int) {}", "program[0 16](proc:f[0 16](params[6 13](param[7 12](type:int[9 12])) none[13 13] block[14 16]))", "E7-8 name"},
		{"record r ", "program[0 9](record:r[0 8](field[8 8](error[8 8])))", "E9-9 {"},
		{"record r : int", "program[0 14](record:r[0 14](field[9 14](type:int[11 14])))", "E9-10 {; E14-14 }"},
		{"record r , a : int }", "program[0 20](record:r[0 20](field[8 8](error[8 8]) field:a[11 18](type:int[15 18])))", "E9-10 {"},
		{" x y proc f() {} z ", "program[0 19](error[1 4] proc:f[5 16](params[11 13] none[13 13] block[14 16]) error[17 18])", "D1-2; D17-18"},
		{" $ ", "program[0 3]", "B1-2"},
	})
}

// P4.3

// inPlace reports whether the bytes of the kids of all nodes lie within those of the nodes, in order.
func inPlace(n api.Node) bool {
	at := n.At
	for _, k := range n.Kids {
		if k.At < at || k.End < k.At || k.End > n.End || !inPlace(k) {
			return false
		}
		at = k.End
	}
	return true
}

// moved returns a tree with all places moved.
func moved(n api.Node, by int) api.Node {
	n.At, n.End = n.At+by, n.End+by
	kids := n.Kids
	n.Kids = nil
	for _, k := range kids {
		n.Kids = append(n.Kids, moved(k, by))
	}
	return n
}

// randomTokens returns a text of tokens that often fit to each other.
func randomTokens(r *rand.Rand, count int) string {
	parts := []string{"proc f(", "proc", "record", "record r {", "f", "x", "y", "a", "1", "0", "(", ")", "{", "}", "[", "]", ",", ";", ":", ".", "=", "==", "<", "+", "-", "*", "and", "or", "not", "true", "len", "len(", "if", "else", "while", "for", "i =", "to", "return", "assert", "var", "int", "int[", "bool", ") {", "};", "x =", "f(", "a[", "p.", "1;", "x;", "$", "#\n", "12345678901", "seventeen_letter_"}
	s := ""
	for range count {
		s += parts[r.Intn(len(parts))]
		if r.Intn(9) > 0 {
			s += " "
		}
	}
	return s
}

func TestPlacesOfBrokenPrograms(t *testing.T) {
	r := rand.New(rand.NewSource(1))
	for range 20000 {
		s := randomTokens(r, r.Intn(30))
		for i, read := range []func(string) (api.Node, []api.Diagnostic, api.Errno){parser.Parse, parser.Expression, parser.Statement} {
			n, l, e := read(s)
			if e != api.OK || !inPlace(n) || n.At < 0 || n.End > len(s) {
				t.Fatalf("%d %q: %s %v", i, s, showPlaces(n), e)
			}
			if !slices.IsSortedFunc(l, func(a, b api.Diagnostic) int { return a.At - b.At }) {
				t.Fatalf("%d %q: %s", i, s, problems(l))
			}
			shape := tree.Valid(n)
			if i == 1 {
				shape = tree.Expression(n)
			} else if i == 2 {
				shape = tree.Statement(n)
			}
			if len(l) == 0 && !shape {
				t.Fatalf("%d %q: %s", i, s, show(n))
			}
		}
	}
}

func TestWhatFollowsAProgram(t *testing.T) {
	r := rand.New(rand.NewSource(2))
	for range 3000 {
		w := newWriter(r)
		w.node(randomProgram(r))
		a := w.text + "\n"
		b := randomTokens(r, r.Intn(20))
		one, l, e := parser.Parse(a)
		if len(l) != 0 || e != api.OK {
			t.Fatalf("%q: %s %v", a, problems(l), e)
		}
		two, m, _ := parser.Parse(b)
		both, k, _ := parser.Parse(a + b)
		want := api.Node{Kind: api.NodeProgram, End: len(a + b), Kids: slices.Concat(one.Kids, moved(two, len(a)).Kids)}
		if showPlaces(both) != showPlaces(want) {
			t.Fatalf("%q %q: %s", a, b, showPlaces(both))
		}
		for i := range m {
			m[i].At, m[i].End = m[i].At+len(a), m[i].End+len(a)
		}
		if problems(k) != problems(m) {
			t.Fatalf("%q %q: %s", a, b, problems(k))
		}
	}
}

func FuzzParser(f *testing.F) {
	f.Add("proc f(x) { return x + 1; }")
	f.Add("record r { a: int } x")
	f.Fuzz(func(t *testing.T, s string) {
		n, l, e := parser.Parse(s)
		if e == api.OK && (!inPlace(n) || len(l) == 0 && !tree.Valid(n)) {
			t.Errorf("%q: %s", s, showPlaces(n))
		}
		if _, d, e := parser.Expression(s); e == api.OK && problems(d) != problems(oracle(s, "expression")) {
			t.Errorf("%q: %s", s, problems(d))
		}
		if _, d, e := parser.Statement(s); e == api.OK && problems(d) != problems(oracle(s, "statement")) {
			t.Errorf("%q: %s", s, problems(d))
		}
	})
}
