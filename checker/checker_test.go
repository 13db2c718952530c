package checker_test

import (
	"reflect"
	"slices"
	"strconv"
	"strings"
	"testing"

	"assessor/api"
	"assessor/checker"
	"assessor/parser"
	"assessor/tree"
)

var (
	integer = api.Type{Kind: api.TypeInt}
	truth   = api.Type{Kind: api.TypeBool}
)

func array(length int) api.Type { return api.Type{Kind: api.TypeArray, Len: length} }

func record(name string) api.Type { return api.Type{Kind: api.TypeRecord, Record: name} }

func node(kind int, text string, kids ...api.Node) api.Node {
	return api.Node{Kind: kind, Text: text, Kids: kids}
}

// write returns diagnostics of a text: the name of the code, the bytes, and the Text behind a colon, or the chain in brackets.
func write(s string, l []api.Diagnostic) string {
	codes := map[int]string{
		api.DiagByte: "byte", api.DiagExpected: "expected", api.DiagUnknown: "unknown", api.DiagDeclared: "declared", api.DiagMany: "many", api.DiagCount: "count",
		api.DiagResult: "result", api.DiagArgument: "argument", api.DiagLoop: "loop", api.DiagCycle: "cycle", api.DiagReturn: "return", api.DiagVar: "var",
		api.DiagConflict: "conflict", api.DiagUntyped: "untyped", api.DiagNodes: "nodes", api.DiagDepth: "depth", api.DiagSlots: "slots",
	}
	var written []string
	for _, d := range l {
		text := codes[d.Code] + " " + s[d.At:d.End]
		if d.Text != "" {
			text += ":" + d.Text
		}
		if d.Code == api.DiagConflict {
			text += chain(s, d.Chain)
		} else if len(d.Chain) > 0 {
			text += " with a chain"
		}
		written = append(written, text)
	}
	return strings.Join(written, " | ")
}

// chain returns the steps of a chain: the bytes, and behind a colon the text of a mark.
func chain(s string, l []api.Step) string {
	var steps []string
	for _, step := range l {
		text := s[step.At:step.End]
		if step.Kind == api.StepMark {
			text += ":" + step.Text
		}
		steps = append(steps, text)
	}
	return "[" + strings.Join(steps, ", ") + "]"
}

// wrong checks that a text has these diagnostics.
func wrong(t *testing.T, s, want string) {
	t.Helper()
	p, l, e := checker.Check(s)
	if got := write(s, l); got != want || e != api.OK || len(l) > 0 && !reflect.DeepEqual(p, api.Program{}) {
		t.Errorf("%q: %v\n%s\n%s", s, e, got, want)
	}
	n, _, _ := parser.Parse(s)
	_, again, e := checker.Tree(n)
	if tree.Valid(n) != (e == api.OK) || e == api.OK && len(l)+len(again) > 0 && !reflect.DeepEqual(l, again) {
		t.Errorf("%q: %v %v", s, again, e)
	}
}

// checked returns the checked program of a text.
func checked(t *testing.T, s string) api.Program {
	t.Helper()
	p, l, e := checker.Check(s)
	if len(l) > 0 || e != api.OK {
		t.Fatalf("%q: %v %v", s, write(s, l), e)
	}
	return p
}

// P10.1

func TestCheckLikeTheParser(t *testing.T) {
	for _, s := range []string{"proc f( {}", "proc f(){x=;}", "proc f(){} $", "x", "proc f(){x=1", "proc f(){x=y;}}", "proc f(){var a_name_that_is_long=1;}", "proc f(){var x=9999999999;}"} {
		_, want, _ := parser.Parse(s)
		p, l, e := checker.Check(s)
		if len(l) == 0 || !reflect.DeepEqual(l, want) || !reflect.DeepEqual(p, api.Program{}) || e != api.OK {
			t.Error(s, p, l, e)
		}
	}
	if p, l, e := checker.Check(strings.Repeat(" ", api.MaxSource+1)); !reflect.DeepEqual(p, api.Program{}) || len(l) > 0 || e != api.ErrTooLarge {
		t.Error(p, l, e)
	}
	s := strings.Repeat(" ", api.MaxSource)
	if p := checked(t, s); p.Tree.End != len(s) || len(p.Types) != 1 || len(p.Names) != 1 || p.Names[0] != -1 || len(p.Records)+len(p.Procedures) > 0 {
		t.Error(p)
	}
}

// P10.2: errors and diagnostics.

func TestTreeOnlyPrograms(t *testing.T) {
	n, _, _ := parser.Parse("proc f(x){x=1;}")
	broken, _, _ := parser.Parse("proc f( {}")
	statement, _, _ := parser.Statement("x = 1;")
	for i, m := range []api.Node{{}, broken, statement, n.Kids[0], {Kind: -1}, node(api.NodeProgram, "x"), node(api.NodeProgram, "", node(api.NodeNone, ""))} {
		if p, l, e := checker.Tree(m); !reflect.DeepEqual(p, api.Program{}) || len(l) > 0 || e != api.ErrArg {
			t.Error(i, p, l, e)
		}
	}
}

func TestNames(t *testing.T) {
	for _, x := range [][2]string{
		{"proc f(x:int){y=x;}", "unknown y:y"},
		{"proc f(x:int,x:int){}", "declared x:int:x"},
		{"proc f(){g();}proc h(){}proc h(){}", "unknown g();:g | declared proc h(){}:h"},
		{"proc f(p:q){}", "unknown q:q"},
		{"record r{a:int,a:bool}proc f(x:r){}", "declared a:bool:a"},
		{"proc f(x:int){x=true;y=x;}", "conflict int[int:int, x, x=true;, true:bool] | unknown y:y"},
		{"proc f(x){y=1;return 1;}", "unknown y:y | return return 1;"},
		{"proc f(x:int):int{return g(1/x,true);}", "unknown g(1/x,true):g"},
	} {
		wrong(t, x[0], x[1])
	}
}

func TestConflicts(t *testing.T) {
	for _, x := range [][2]string{
		{"proc f(x): bool { return x + 1; }", "conflict bool[bool:bool, return x + 1;, x + 1:int]"},
		{"proc f(x){x=1;x=true;}", "conflict 1[1:int, x=1;, x, x, x=true;, true:bool]"},
		{"proc f(x:int){if x{}}", "conflict int[int:int, x, x:bool]"},
		{"proc f(){while 1{}}", "conflict 1[1:bool, 1:int]"},
		{"proc f(){assert 1;}", "conflict 1[1:bool, 1:int]"},
		{"proc f(b:bool){for i=b to 1{}}", "conflict bool[bool:bool, b, b:int]"},
		{"proc f(b:bool){for i=1 to b{}}", "conflict bool[bool:bool, b, b:int]"},
		{"proc f(b:bool){for i=0 to 1{b=i;}}", "conflict bool[bool:bool, b, b=i;, i, for i=0 to 1{b=i;}:int]"},
		{"proc f(a:int){a[0]=1;}", "conflict int[int:int, a, a:array]"},
		{"proc f(a:int[2]){a[true]=1;}", "conflict true[true:int, true:bool]"},
		{"proc f(a:int[2]){a[0]=true;}", "conflict a[0][a[0]:int, a[0]=true;, true:bool]"},
		{"proc f(a:int[2]){a=[1];}", "conflict int[2][int[2]:int[2], a, a=[1];, [1]:int[1]]"},
		{"proc f(a:int[2]){a=[1,true];}", "conflict true[true:int, true:bool]"},
		{"proc f(a):int{return len(a)+a;}", "conflict a[a:int, a, a, a:array]"},
		{"proc f():bool{return -true;}", "conflict bool[bool:bool, return -true;, -true:int] | conflict true[true:int, true:bool]"},
		{"proc f():bool{return not 1;}", "conflict 1[1:bool, 1:int]"},
		{"proc f():bool{return 1 and true;}", "conflict 1[1:bool, 1:int]"},
		{"proc f():bool{return true or 1;}", "conflict 1[1:bool, 1:int]"},
		{"proc f():bool{return 1==true;}", "conflict 1[1:int, 1==true, true:bool]"},
		{"proc f(a:int[2]):bool{return a==a;}", "conflict int[2][int[2]:int[2], a, a:int or bool]"},
		{"proc f(a:int[2]):bool{return 1!=a;}", "conflict int[2][int[2]:int[2], a, 1!=a, 1:int or bool]"},
		{"proc f():bool{return true<1;}", "conflict true[true:int, true:bool]"},
		{"proc g(x:int){}proc f(){g(true);}", "conflict int[int:int, true, true:bool]"},
		{"record r{a:int,b:bool}proc f(x:r){x=r(true,1);}", "conflict int[int:int, true, true:bool] | conflict bool[bool:bool, 1, 1:int]"},
		{"record r{a:int}record s{b:int}proc f(x:r){x=s(1);}", "conflict r[r:r, x, x=s(1);, s(1):s]"},
		{"record r{a:int}record s{b:int}proc f(x:r){x.b=1;}", "conflict r[r:r, x, x.b:s]"},
		{"record r{a:int}proc f(x:int){x.a=1;}", "conflict int[int:int, x, x.a:r]"},
		{"record r{a:int}proc f(x:r){x.a=true;}", "conflict int[int:int, x.a, x.a=true;, true:bool]"},
	} {
		wrong(t, x[0], x[1])
	}
}

func TestTheOrderOfConflicts(t *testing.T) {
	// By their places in the text, not by their vertices.
	wrong(t, "proc g(a){}proc f(x:int){g(1);x=true;g(x==true);g(1);}", "conflict int[int:int, x, x=true;, true:bool] | conflict 1[1:int, 1, x==true, x==true:bool]")
	// The place of a conflict is that of the first step.
	_, l, _ := checker.Check("proc f(x): bool { return x + 1; }")
	want := []api.Diagnostic{{Code: api.DiagConflict, At: 11, End: 15, Chain: []api.Step{{Kind: api.StepMark, At: 11, End: 15, Text: "bool"}, {Kind: api.StepEqual, At: 18, End: 31}, {Kind: api.StepMark, At: 25, End: 30, Text: "int"}}}}
	if !reflect.DeepEqual(l, want) {
		t.Error(l)
	}
	_, l, _ = checker.Check("proc f(x) { return x + 1; }")
	if want := []api.Diagnostic{{Code: api.DiagReturn, At: 12, End: 25}}; !reflect.DeepEqual(l, want) {
		t.Error(l)
	}
}

func TestUntyped(t *testing.T) {
	for _, x := range [][2]string{
		{"proc f(x){}", "untyped x:x"},
		{"proc f(x,var y){}", "untyped x:x | untyped var y:y"},
		{"proc f(x,y){x=y;}", "untyped x:x | untyped y:y"},
		{"proc f(x,y){x=y;y=1;}", ""},
		{"proc f(x){var y=x;}", "untyped x:x | untyped var y=x;:y"},
		{"proc f(x):bool{return x==x;}", "untyped x:x"},
		{"proc f(x):int{return len(x);}", "untyped x:x"},
		{"proc f(x){x[0]=1;}", "untyped x:x"},
		{"proc f(x){f(x);}", "cycle proc f(x){f(x);} | untyped x:x"},
		// What is in conflict is not untyped, but what is not, is.
		{"proc f(x,y,z){x=1;x=true;y=x;}", "untyped z:z | conflict 1[1:int, x=1;, x, x, x=true;, true:bool]"},
		{"proc g(){}proc f(){var x=g();}", "untyped var x=g();:x | result g()"},
		{"proc f(x:int[0]){}", "untyped x:int[0]:x | many int[0]"},
		{"proc f(){var x=[1,2,3,4,5,6,7,8,9];}", "untyped var x=[1,2,3,4,5,6,7,8,9];:x | many [1,2,3,4,5,6,7,8,9]"},
		// Only if there are no diagnostics of names.
		{"proc f(x,y){z=1;}", "unknown z:z"},
	} {
		wrong(t, x[0], x[1])
	}
}

func TestRules(t *testing.T) {
	for _, x := range [][2]string{
		{"record r{a:int,b:int,c:int,d:int}", ""},
		{"record r{a:int,b:int,c:int,d:int,e:int}", "many record r{a:int,b:int,c:int,d:int,e:int}"},
		{"record r{a:int}record s{b:int}record t{c:int}record u{d:int}", ""},
		{"record r{a:int}record s{b:int}record t{c:int}proc x(){}record u{d:int}record v{e:int}record w{f:int}record y{g:int,h:int,i:int,j:int,k:int}", "many record v{e:int} | many record w{f:int} | many record y{g:int,h:int,i:int,j:int,k:int}"},
		{"proc a(){}proc b(){}proc c(){}proc d(){}proc e(){}proc f(){}proc g(){}proc h(){}", ""},
		{"proc a(){}proc b(){}proc c(){}proc d(){}proc e(){}proc f(){}record r{x:int}proc g(){}proc h(){}proc i(){}proc j(){j();}", "many proc i(){} | many proc j(){j();} | cycle proc j(){j();}"},
		{"proc f(){f();}", "cycle proc f(){f();}"},
		{"proc f():int{return -f();}", "cycle proc f():int{return -f();}"},
		{"proc a(){b();}proc b(){c();}proc c(){b();}proc d(){a();}", "cycle proc b(){c();} | cycle proc c(){b();}"},
		{"proc a(){b();}proc b(){c();}proc c(){}proc d(){c();a();}", ""},
		{"proc f(a:int,b:int,c:int,d:int,e:int,g:int){}", ""},
		{"proc f(a:int,b:int,c:int,d:int,e:int,g:int,h:int){}", "many (a:int,b:int,c:int,d:int,e:int,g:int,h:int)"},
		{"proc f(var a:int,b:int){}", ""},
		{"proc f(var a:int,b:int,var c:int):int{return 1;}", "var var a:int | var var c:int"},
		{"proc f(x:int[1],y:int[8]){var z:int[1]=x;}", ""},
		{"proc f(x:int[9]):int[0]{var z:int[999999999]=[1];return [1];}", "untyped x:int[9]:x | many int[9] | many int[0] | many int[999999999]"},
		{"proc f(x:int[8]){x=[1,2,3,4,5,6,7,8];}", ""},
		{"proc f(x:int[8]){x=[1,2,3,4,5,6,7,8,9];}", "many [1,2,3,4,5,6,7,8,9]"},
		{"proc f(){for i=0 to 1{i=1;}i=1;}", "loop i=1; | unknown i:i"},
		{"proc f(){for i=0 to 1{i[0]=1;}}", "conflict for i=0 to 1{i[0]=1;}[for i=0 to 1{i[0]=1;}:int, i, i:array] | loop i[0]=1;"},
		{"record r{a:int}proc f(){for i=0 to 1{i.a=1;}}", "conflict for i=0 to 1{i.a=1;}[for i=0 to 1{i.a=1;}:int, i, i.a:r] | loop i.a=1;"},
		{"proc f(x:int[2]){for i=0 to 1{x[i]=i;}}", ""},
		{"proc f(){return;}proc g():int{return 1;}", ""},
		{"proc f(){return 1;}proc g():int{return;}", "return return 1; | return return;"},
		{"proc f():q{return 1;}", "unknown q:q"},
	} {
		wrong(t, x[0], x[1])
	}
}

func TestRulesOfCalls(t *testing.T) {
	const g, h, k = "proc g(x:int){}", "proc h():int{return 1;}", "proc k(var x:int,y:int,var z:int){}"
	for _, x := range [][2]string{
		{g + "proc f(){g(1);}", ""},
		{g + "proc f(){g();g(1,2);g(1,g(1));}", "count g(); | count g(1,2); | count g(1,g(1)); | result g(1)"},
		{h + "proc f(){h();var x=h()+h(1);}", "result h(); | count h(1)"},
		{h + "proc f(){h(1);}", "count h(1); | result h(1);"},
		{g + "proc f(){var x=1+g();}", "count g() | result g()"},
		{"record r{a:int,b:int}proc f(x:r){x=r(1,2);x=r(1);x=r(1,2,3);}", "count r(1) | count r(1,2,3)"},
		{"record r{a:int}proc f(){r(1);}", "unknown r(1);:r"},
		{k + "proc f(a:int,b:int){k(a,a,b);k(a,b,b);k(b,a+1,a);}", ""},
		{k + "proc f(a:int,b:int[1]){k(a,1,1);k((a),a,a+0);k(b[0],1,a);k(-a,1,len(b));}", "argument 1 | argument a+0 | argument b[0] | argument -a | argument len(b)"},
		{k + "proc f(a:int,b:int){k(a,1,a);k(a,b,a);k(b,1,b);}", "argument a | argument a | argument b"},
		{k + "proc f(a:int){k(a,1);k(1);k(a,1,a,1);k(a,1,1,1);}", "count k(a,1); | count k(1); | argument 1 | count k(a,1,a,1); | argument a | count k(a,1,1,1); | argument 1"},
		{k + "proc f(a:int){for i=0 to 1{k(i,i,a);k(a,i,i);k(i,1,i);}}", "loop i | loop i | loop i | argument i | loop i"},
		{k + "record r{m:int}proc f(a:int,b:r){k(a,1,b.m);k(b.m,1,b.m);}", "argument b.m | argument b.m | argument b.m"},
		{k + h + "proc f(){k(h(),1,h());}", "argument h() | argument h()"},
		{k + "proc f(){k(a,1,a);}", "unknown a:a | unknown a:a"},
		{"proc v(var x:int):int{return x;}proc f(a:int){a=v(a)+v(1);v(2);}", "var var x:int | argument 1 | result v(2); | argument 2"},
		{g + "proc f(){g(h);}", "unknown h:h"},
		{"proc f(){u(1,2);}", "unknown u(1,2);:u"},
	} {
		wrong(t, x[0], x[1])
	}
	// A node of a call has its own bytes, an argument those of itself.
	_, l, _ := checker.Check("proc k(var x:int){}proc f(){ k( 1 , 2 ); }")
	want := []api.Diagnostic{{Code: api.DiagCount, At: 29, End: 40}, {Code: api.DiagArgument, At: 32, End: 33}}
	if !reflect.DeepEqual(l, want) {
		t.Error(l)
	}
}

func TestTheOrderOfPhases(t *testing.T) {
	s := "proc g(){}proc f(x,x){return 1;y=2;g(3);if 4{}}"
	n, _, _ := parser.Parse(s)
	bare := tree.Bare(n)
	codes := func(n api.Node) []int {
		_, l, e := checker.Tree(n)
		if e != api.OK {
			t.Error(e)
		}
		var codes []int
		for _, d := range l {
			codes = append(codes, d.Code)
		}
		return codes
	}
	if l := codes(n); !slices.Equal(l, []int{api.DiagDeclared, api.DiagReturn, api.DiagUnknown, api.DiagCount, api.DiagConflict}) {
		t.Error(l)
	}
	if l := codes(bare); !slices.Equal(l, []int{api.DiagDeclared, api.DiagUnknown, api.DiagConflict, api.DiagReturn, api.DiagCount}) {
		t.Error(l)
	}
	n, _, _ = parser.Parse("proc f(x){return 1;if 4{}}")
	if l := codes(tree.Bare(n)); !slices.Equal(l, []int{api.DiagConflict, api.DiagUntyped, api.DiagReturn}) {
		t.Error(l)
	}
}

// sized returns a program with a procedure of so many nodes (at least 8), and with the bytes 3 to 7.
func sized(count int) api.Node {
	none, number := node(api.NodeNone, ""), node(api.NodeNumber, "1")
	block := node(api.NodeBlock, "")
	if count%2 == 0 {
		block.Kids = append(block.Kids, node(api.NodeVar, "v", none, number))
		count -= 3
	}
	for range (count - 5) / 2 {
		block.Kids = append(block.Kids, node(api.NodeReturn, "", none))
	}
	n := node(api.NodeProgram, "", node(api.NodeProcedure, "f", node(api.NodeParameters, ""), none, block))
	n.At, n.End = 3, 7
	return n
}

func TestNodes(t *testing.T) {
	wrong := []api.Diagnostic{{Code: api.DiagNodes, At: 3, End: 7}}
	for _, count := range []int{8, 9, api.MaxNodes - 1, api.MaxNodes, api.MaxNodes + 1, api.MaxNodes + 2, api.MaxSource - 1, api.MaxSource, api.MaxSource + 1, api.MaxSource + 2, 3 * api.MaxSource} {
		n := sized(count)
		if tree.Count(n) != count {
			t.Fatal(count)
		}
		p, l, e := checker.Tree(n)
		if count > api.MaxNodes {
			if !reflect.DeepEqual(l, wrong) || !reflect.DeepEqual(p, api.Program{}) || e != api.OK {
				t.Error(count, l, e)
			}
		} else if len(l) > 0 || len(p.Types) != count || len(p.Names) != count || e != api.OK {
			t.Error(count, l, e)
		}
		// The number of nodes alone is reported if there are more than MaxSource, and is not if there are not and something else is wrong.
		statements := n.Kids[0].Kids[2].Kids
		statements[len(statements)-1] = node(api.NodeReturn, "", node(api.NodeName, "x"))
		p, l, e = checker.Tree(n)
		if !reflect.DeepEqual(p, api.Program{}) || e != api.OK {
			t.Error(count, p, e)
		}
		if count = tree.Count(n); count > api.MaxSource {
			if !reflect.DeepEqual(l, wrong) {
				t.Error(count, l)
			}
		} else if want := []api.Diagnostic{{Code: api.DiagUnknown, Text: "x"}, {Code: api.DiagReturn}}; !reflect.DeepEqual(l, want) {
			t.Error(count, l)
		}
	}
}

func TestDepth(t *testing.T) {
	for _, levels := range []int{5, api.MaxTreeDepth - 1, api.MaxTreeDepth, api.MaxTreeDepth + 1, 500, api.MaxNodes} {
		// The value of the variable has the levels from 5 on.
		value := node(api.NodeNumber, "1")
		for range levels - 5 {
			value = node(api.NodeUnary, "-", value)
		}
		n := sized(8)
		n.Kids[0].Kids[2].Kids[0].Kids[1] = value
		var want []api.Diagnostic
		if tree.Count(n) > api.MaxNodes {
			want = append(want, api.Diagnostic{Code: api.DiagNodes, At: 3, End: 7})
		}
		if levels > api.MaxTreeDepth {
			want = append(want, api.Diagnostic{Code: api.DiagDepth, At: 3, End: 7})
		}
		p, l, e := checker.Tree(n)
		if tree.Levels(n) != levels || !reflect.DeepEqual(l, want) || (len(p.Types) == 0) != (len(want) > 0) || e != api.OK {
			t.Error(levels, tree.Levels(n), l, e)
		}
		n.Kids[0].Kids[2].Kids[0].Kids[0] = node(api.NodeType, "bool")
		if _, l, _ = checker.Tree(n); len(l) != 1 || l[0].Code != api.DiagConflict {
			t.Error(levels, l)
		}
	}
}

func TestSlots(t *testing.T) {
	// procedure returns one with a parameter, the variable of a loop, and arrays of 8.
	procedure := func(name string, arrays int, more string) string {
		s := "proc " + name + "(p:int[5]){for i=0 to 1{}"
		for i := range arrays {
			s += "var v" + strconv.Itoa(i) + "=[1,1,1,1,1,1,1,1];"
		}
		return s + more + "}"
	}
	fits, over := procedure("f", 15, "var w=1;var x=true;"), procedure("g", 15, "var w=1;var x=true;if x{var y=1;}")
	p := checked(t, fits)
	if p.Procedures[0].Slots != api.MaxSlots {
		t.Error(p.Procedures[0].Slots)
	}
	wrong(t, over, "slots "+over)
	wrong(t, fits+over+procedure("h", 0, "")+procedure("j", 16, ""), "slots "+over+" | slots "+procedure("j", 16, ""))
	wrong(t, over+"proc h(x){}", "untyped x:x")
	// Many nodes and many slots.
	s := procedure("f", 120, "")
	wrong(t, s, "nodes "+s+" | slots "+s)
}

// P10.2: the checked program.

func TestProgram(t *testing.T) {
	s := "proc h(var q,b:bool){q=point(1,b);k();}" +
		"record point{px:int,pb:bool}" +
		"proc f(a:int[3],n):int{var p=point(n,true);h(p,not p.pb);for i=0 to len(a){var x=a[i];n=n+x;}for i=1 to g(){n=-n;}if p.pb{var x=p;p=x;}return n;}" +
		"proc k(){}" +
		"proc g():int{var z=[1,2];return z[0];}"
	p := checked(t, s)
	n, _, _ := parser.Parse(s)
	if !reflect.DeepEqual(p.Tree, n) {
		t.Error(p.Tree)
	}
	records := []api.Record{{Name: "point", Fields: []api.Field{{Name: "px", Type: integer}, {Name: "pb", Type: truth}}}}
	if !reflect.DeepEqual(p.Records, records) {
		t.Error(p.Records)
	}
	point := record("point")
	want := []api.Procedure{
		{Name: "h", Parameters: 2, Slots: 3, Calls: []int{2}, Variables: []api.Variable{{Name: "q", Type: point, Var: true}, {Name: "b", Type: truth, Slot: 2}}},
		{Name: "f", Parameters: 2, Result: integer, Slots: 11, Calls: []int{0, 3}, Variables: []api.Variable{{Name: "a", Type: array(3)}, {Name: "n", Type: integer, Slot: 3}, {Name: "p", Type: point, Slot: 4}, {Name: "i", Type: integer, Slot: 6, Loop: true}, {Name: "x", Type: integer, Slot: 7}, {Name: "i", Type: integer, Slot: 8, Loop: true}, {Name: "x", Type: point, Slot: 9}}},
		{Name: "k"},
		{Name: "g", Result: integer, Slots: 2, Variables: []api.Variable{{Name: "z", Type: array(2)}}},
	}
	var texts []string
	number := 0
	procedure, variable := -1, 0
	var walk func(n api.Node)
	walk = func(n api.Node) {
		switch n.Kind {
		case api.NodeProcedure:
			procedure++
			variable = 0
			want[procedure].Node = number
		case api.NodeParameter, api.NodeVarParameter, api.NodeVar, api.NodeFor:
			want[procedure].Variables[variable].Node = number
			variable++
		}
		texts = append(texts, typeName(p.Types[number]))
		if p.Types[number].Kind != api.TypeNone {
			texts[number] += " " + s[n.At:n.End]
		}
		if p.Names[number] >= 0 {
			texts[number] += " " + strconv.Itoa(p.Names[number])
		}
		number++
		for _, k := range n.Kids {
			walk(k)
		}
	}
	walk(n)
	if !reflect.DeepEqual(p.Procedures, want) {
		t.Errorf("%v\n%v", p.Procedures, want)
	}
	wantTexts := "- | " +
		// h
		"- | - | - 0 | - | - 1 | - | - | - | - | point q 0 | point point(1,b) | int 1 | bool b 1 | - | " +
		// point
		"- | - | - | - | - | " +
		// f
		"- | - | - 0 | - | - 1 | - | - | - | " +
		"- 2 | - | point point(n,true) | int n 1 | bool true | " +
		"- | point p 2 | bool not p.pb | bool p.pb | point p 2 | " +
		"- 3 | int 0 | int len(a) | [3] a 0 | - | " +
		"- 4 | - | int a[i] | [3] a 0 | int i 3 | - | int n 1 | int n+x | int n 1 | int x 4 | " +
		"- 5 | int 1 | int g() | - | - | int n 1 | int -n | int n 1 | " +
		"- | bool p.pb | point p 2 | - | - 6 | - | point p 2 | - | point p 2 | point x 6 | - | " +
		"- | int n 1 | " +
		// k
		"- | - | - | - | " +
		// g
		"- | - | - | - | - 0 | - | [2] [1,2] | int 1 | int 2 | - | int z[0] | [2] z 0 | int 0"
	if got := strings.Join(texts, " | "); got != wantTexts {
		t.Errorf("\n%s\n%s", got, wantTexts)
	}
}

func typeName(t api.Type) string {
	if t.Kind == api.TypeArray {
		return "[" + strconv.Itoa(t.Len) + "]"
	}
	return []string{"-", "int", "bool", "", t.Record}[t.Kind]
}

func TestCalls(t *testing.T) {
	p := checked(t, "proc a(){b();e();b();if c(){b();}}proc b(){}record r{x:int}proc c():bool{var y=r(d(1)+d(d(2)));return f()==d(3);}proc d(x:int):int{return x;}proc e(){b();}proc f():int{return 1;}")
	for i, want := range [][]int{{1, 2, 4}, nil, {3, 5}, nil, {1}, nil} {
		if !slices.Equal(p.Procedures[i].Calls, want) {
			t.Error(i, p.Procedures[i].Calls)
		}
	}
}

// P10.3

func TestFind(t *testing.T) {
	p := checked(t, "proc f(){}record r{a:int}proc g(x:int){}proc h(){g(1);}")
	for name, want := range map[string]int{"f": 0, "g": 1, "h": 2} {
		if i, ok := checker.Find(p, name); i != want || !ok {
			t.Error(name, i, ok)
		}
	}
	for _, name := range []string{"", "r", "x", "a", "F", "f ", "int"} {
		if i, ok := checker.Find(p, name); i != 0 || ok {
			t.Error(name, i, ok)
		}
	}
	if i, ok := checker.Find(api.Program{}, ""); i != 0 || ok {
		t.Error(i, ok)
	}
}

func TestOrder(t *testing.T) {
	for s, want := range map[string][]int{
		"":                                       nil,
		"proc f(){}":                             {0},
		"proc a(){}proc b(){}proc c(){}":         {0, 1, 2},
		"proc a(){b();}proc b(){c();}proc c(){}": {2, 1, 0},
		"proc a(){c();}proc b(){}proc c(){}proc d(){}":                    {1, 2, 0, 3},
		"proc a(){d();}proc b(){a();}proc c(){}proc d(){e();}proc e(){}":  {2, 4, 3, 0, 1},
		"proc a(){c();b();c();}proc b(){d();}proc c(){d();}proc d(){}":    {3, 1, 2, 0},
		"proc a(){b();}record r{x:int}proc b(){}proc c(){a();}proc d(){}": {1, 0, 2, 3},
	} {
		if l := checker.Order(checked(t, s)); !slices.Equal(l, want) {
			t.Error(s, l)
		}
	}
	if l := checker.Order(api.Program{}); len(l) > 0 {
		t.Error(l)
	}
}

func TestCost(t *testing.T) {
	const h = "proc h(x:int):int{var y=x;return y;}" // 2
	for _, x := range []struct {
		s     string
		loops int
		want  int
	}{
		{"proc f(){}", 3, 0},
		{"proc f(){return;}", 3, 1},
		{"proc f(x:int){var y=1;x=y;assert x<y;return;}", 3, 4},
		{"proc f(x:bool){if x{}}", 3, 1},
		{"proc f(x:bool){if x{x=true;x=true;}else{x=false;}}", 3, 4},
		{"proc f(x:bool){if x{x=true;}else if x{}else{x=x;x=x;}}", 3, 5},
		{"proc f(x:bool){while x{}}", 0, 1}, {"proc f(x:bool){while x{}}", 1, 2}, {"proc f(x:bool){while x{}}", 8, 9},
		{"proc f(x:bool){while x{x=x;x=x;}}", 0, 1}, {"proc f(x:bool){while x{x=x;x=x;}}", 3, 10},
		{"proc f(){for i=0 to 1{}}", 0, 1}, {"proc f(){for i=0 to 1{}}", 4, 5},
		{"proc f(x:int){for i=0 to 1{x=i;x=i;}}", 0, 1}, {"proc f(x:int){for i=0 to 1{x=i;x=i;}}", 3, 10},
		{"proc f(x:int){for i=0 to 1{for j=0 to 1{x=i;}}}", 2, 1 + 2*(1+1+2*2)},
		// Calls
		{"proc g(){}proc f(){g();}", 3, 2},
		{"proc g(x:int){x=x;}proc f(){g(1);}", 3, 3},
		{h + "proc f(x:int){x=h(x);}", 3, 4}, {h + "proc f(x:int){x=h(h(x))+h(1);}", 3, 10}, {h + "proc f(x:int){var y=[h(1),2,h(3)];}", 3, 7},
		{h + "proc f(x:int[2]){x[h(1)]=h(2);}", 3, 7}, {h + "proc f():int{return -h(1);}", 3, 4}, {h + "proc f(){assert h(1)==g(1);}proc g(x:int):int{return 1;}", 3, 1 + 3 + 2},
		{"record r{a:int,b:int}" + h + "proc f(x:r){x=r(h(1),2);x.a=h(x.b);}", 3, 8},
		{h + "proc g(x:int,y:int){}proc f(){g(h(1),h(2));}", 3, 1 + 3 + 3 + 1},
		{h + "proc f(x:int){if h(x)==1{x=h(1);}else if h(x)==2{x=h(3);}}", 3, 4 + 4 + 4 + 4},
		{h + "proc f(x:int){while h(x)==1{x=h(1);}}", 0, 4}, {h + "proc f(x:int){while h(x)==1{x=h(1);}}", 2, 1 + 3*3 + 2*(1+4)},
		{h + "proc f(x:int){for i=h(1) to h(2){x=h(1);}}", 0, 7}, {h + "proc f(x:int){for i=h(1) to h(2){x=h(1);}}", 2, 1 + 6 + 2*(1+4)},
		{"proc g(): int { return 1; } proc f(x: int) { for i = 0 to 3 { x = g() + x; } }", 2, 9},
		{"proc f(x:int){g(x);}proc g(x:int){for i=0 to x{x=x;}}", 3, 2 + 7},
	} {
		p := checked(t, x.s)
		i, _ := checker.Find(p, "f")
		if cost, e := checker.Cost(p, i, x.loops); cost != x.want || e != api.OK {
			t.Error(x.s, x.loops, cost, e)
		}
	}
}

func TestGreatCosts(t *testing.T) {
	// Each level of a loop costs 1 + 8 * (1 + cost): 17, 145, 1169, 9361.
	for levels, want := range []int{1, 17, 145, 1169, 2049, 2049, 2049, 2049} {
		s := "proc f(x:int){" + strings.Repeat("while x==1{", levels) + "x=1;" + strings.Repeat("}", levels) + "}"
		if cost, e := checker.Cost(checked(t, s), 0, 8); cost != want || e != api.OK {
			t.Error(levels, cost, e)
		}
	}
	// Behind two calls with the costs 1171 and 811, the limit itself is exact.
	for _, more := range []int{0, 65, 66, 67, 68, 100} {
		s := "proc f(x:int){while x==1{while x==1{while x==1{x=1;}}}}proc g(x:int){for i=0 to 1{" + strings.Repeat("x=1;", 100) + "}}" +
			"proc h(x:int){f(x);g(x);" + strings.Repeat("x=1;", more) + "}"
		p := checked(t, s)
		if cost, e := checker.Cost(p, 2, 8); cost != min(1171+811+more, api.MaxCost+1) || e != api.OK {
			t.Error(more, cost, e)
		}
	}
	// Calls of calls.
	s := "proc p0(){}"
	for i := range 7 {
		s += "proc p" + strconv.Itoa(i+1) + "(){" + strings.Repeat("p"+strconv.Itoa(i)+"();", 9) + "}"
	}
	p := checked(t, s)
	for i, want := range []int{0, 18, 180, 1638, 2049, 2049, 2049, 2049} {
		if cost, e := checker.Cost(p, i, 0); cost != want || e != api.OK {
			t.Error(i, cost, e)
		}
	}
}

func TestCostErrors(t *testing.T) {
	p := checked(t, "proc f(){return;}proc g(){}")
	for _, x := range []struct {
		procedure, loops int
		cost             int
		e                api.Errno
	}{
		{0, 0, 1, api.OK}, {0, api.MaxLoops, 1, api.OK}, {1, 0, 0, api.OK},
		{-1, 0, 0, api.ErrNotFound}, {2, 0, 0, api.ErrNotFound}, {1 << 62, 0, 0, api.ErrNotFound}, {2, -1, 0, api.ErrNotFound}, {-1, 99, 0, api.ErrNotFound},
		{0, -1, 0, api.ErrRange}, {0, api.MaxLoops + 1, 0, api.ErrRange}, {1, 1 << 62, 0, api.ErrRange}, {1, -1 << 62, 0, api.ErrRange},
	} {
		if cost, e := checker.Cost(p, x.procedure, x.loops); cost != x.cost || e != x.e {
			t.Error(x, cost, e)
		}
	}
	if cost, e := checker.Cost(api.Program{}, 0, 0); cost != 0 || e != api.ErrNotFound {
		t.Error(cost, e)
	}
}

// P10.4

func TestSafe(t *testing.T) {
	const s = "record r{a:int,b:bool}proc g():int{return 1;}proc f(a:int[1],b:int[2],c:int[8],x:int,p:r):int{return %;}"
	safe := map[string]bool{
		"x": true, "1": true, "999999999": true, "x+1*2-x": true, "-x": true, "p.a": true, "len(b)": true,
		"x/1": false, "1/x": false, "x%2": false, "-(x/2)": false, "1+2*(3%4)": false,
		"g()": false, "1+g()": false, "-g()": false,
		"a[0]": true, "a[1]": false, "b[0]": true, "b[1]": true, "b[2]": false, "c[0]": true, "c[1]": true, "c[2]": false, "c[7]": false, "c[8]": false, "c[999999999]": false,
		"b[x]": false, "b[-1]": false, "b[1-1]": false, "b[a[0]]": false, "b[(1)]": true, "1+b[1]*a[0]": true, "1+b[1]*a[1]": false,
	}
	conditions := map[string]bool{
		"true": true, "p.b": true, "not p.b": true, "x==1 and p.b or x<2": true, "x==1/2": false, "x<g()": false, "c[1]>=c[0]": true, "c[1]>=c[2]": false, "true or 1/0==1": false,
	}
	lists := map[string]bool{"[1,x]": true, "[1,x/2]": false, "[g(),1]": false, "b": true}
	records := map[string]bool{"r(1,true)": true, "p": true, "r(1/1,true)": false, "r(1,x%2==0)": false, "r(g(),true)": false, "r(b[1],false)": true, "r(b[2],false)": false}
	check := func(result string, l map[string]bool) {
		for text, want := range l {
			source := strings.Replace(strings.Replace(s, "%", text, 1), ":int{return "+text, ":"+result+"{return "+text, 1)
			p, wrong, _ := checker.Check(source)
			if len(wrong) > 0 {
				t.Error(source, write(source, wrong))
				continue
			}
			// The expression comes behind the return, which is the last statement.
			number := tree.Count(p.Tree) - tree.Count(p.Tree.Kids[2].Kids[2].Kids[0].Kids[0])
			if checker.Safe(p, number) != want {
				t.Error(text, !want)
			}
		}
	}
	check("int", safe)
	check("bool", conditions)
	check("int[2]", lists)
	check("r", records)
}

func TestSafeOnlyExpressions(t *testing.T) {
	p := checked(t, "record r{a:int}proc g(var x:int){}proc f(x:int){var y=x;x=1;g(y);for i=0 to 1{if x==1{while true{return;}}else{assert false;}}}")
	number, expressions := 0, 0
	var walk func(n api.Node)
	walk = func(n api.Node) {
		expression := n.Kind >= api.NodeName
		if checker.Safe(p, number) != expression {
			t.Error(number, n)
		}
		if expression {
			expressions++
		}
		number++
		for _, k := range n.Kids {
			walk(k)
		}
	}
	walk(p.Tree)
	if expressions != 11 {
		t.Error(expressions)
	}
	for _, number := range []int{-1, number, number + 1, 1 << 62, -1 << 62} {
		if checker.Safe(p, number) {
			t.Error(number)
		}
	}
	if checker.Safe(api.Program{}, 0) {
		t.Error("zero")
	}
}

func TestVariable(t *testing.T) {
	p := checked(t, "proc g(a:int[2],var x:int){a=[x,x];for y=0 to 1{x=y;}}record r{b:bool}proc f(x:int,p:r){var y=x;p.b=y<h();for i=y to x{}}proc h():int{return 1;}")
	g, f := p.Procedures[0].Variables, p.Procedures[1].Variables
	want := []api.Variable{}
	none := api.Variable{}
	// g: the parameters, a = [x, x], for, x = y.
	want = append(want, none, none, none, g[0], none, g[1], none, none, none, none, g[0], none, g[1], g[1], g[2], none, none, none, none, g[1], g[2])
	want = append(want, none, none, none)
	// f: the parameters, var, p.b = y < h(), for.
	want = append(want, none, none, f[0], none, f[1], none, none, none, f[2], none, f[0], none, none, f[1], none, f[2], none, f[3], f[2], f[0], none)
	want = append(want, none, none, none, none, none, none)
	if len(want) != len(p.Names) {
		t.Fatal(len(want), len(p.Names))
	}
	for number, x := range want {
		if v, ok := checker.Variable(p, number); v != x || ok != (x != none) {
			t.Error(number, v, ok, x)
		}
	}
	for _, number := range []int{-1, len(want), 1 << 62, -1 << 62} {
		if v, ok := checker.Variable(p, number); v != none || ok {
			t.Error(number, v, ok)
		}
	}
	if v, ok := checker.Variable(api.Program{}, 0); v != none || ok {
		t.Error(v, ok)
	}
}

func TestResultsAreNew(t *testing.T) {
	n, _, _ := parser.Parse("record r{a:int}proc f(var x:r){g();}proc g(){}")
	before, _ := tree.Get(n)
	p, _, _ := checker.Tree(n)
	q, _, _ := checker.Tree(n)
	p.Tree.Kids[0].Text, p.Tree.Kids[1].Kids[0].Kids[0].Text = "changed", "changed"
	p.Types[0], p.Names[0] = truth, 7
	p.Records[0].Fields[0].Name = "changed"
	p.Procedures[0].Variables[0].Name, p.Procedures[0].Calls[0] = "changed", 7
	r, _, _ := checker.Tree(n)
	if !reflect.DeepEqual(n, before) || !reflect.DeepEqual(q, r) {
		t.Error(n, q, r)
	}
	checker.Order(q)[0] = 7
	if l := checker.Order(q); !slices.Equal(l, []int{1, 0}) || !reflect.DeepEqual(q, r) {
		t.Error(l)
	}
	_, a, _ := checker.Check("proc f(){assert 1;assert 1;}")
	_, b, _ := checker.Check("proc f(){assert 1;assert 1;}")
	a[0].Chain[0].Text = "changed"
	if a[1].Chain[0].Text != "bool" || b[0].Chain[0].Text != "bool" {
		t.Error(a, b)
	}
}
