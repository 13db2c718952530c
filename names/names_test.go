package names_test

import (
	"reflect"
	"slices"
	"strconv"
	"strings"
	"testing"

	"assessor/api"
	"assessor/names"
	"assessor/parser"
	"assessor/tree"
)

func node(kind int, text string, kids ...api.Node) api.Node {
	return api.Node{Kind: kind, Text: text, Kids: kids}
}

// program returns the tree of a text.
func program(t *testing.T, s string) api.Node {
	t.Helper()
	n, l, e := parser.Parse(s)
	if len(l) > 0 || e != api.OK {
		t.Fatalf("%q: %v %v", s, l, e)
	}
	return n
}

// nodes returns the nodes of a tree by their numbers.
func nodes(n api.Node) []api.Node {
	l := []api.Node{n}
	for _, k := range n.Kids {
		l = append(l, nodes(k)...)
	}
	return l
}

// declared writes declarations as their names, each with a letter for the kind, the number of the node, and the owner.
func declared(l []api.Declaration) string {
	var w []string
	for _, d := range l {
		w = append(w, d.Name+":"+"RFPpvl"[d.Kind:d.Kind+1]+strconv.Itoa(d.Node)+"/"+strconv.Itoa(d.Owner))
	}
	return strings.Join(w, " ")
}

// used writes the nodes that have a declaration, but do not make it, each with the index of the declaration.
func used(r api.Resolution) string {
	var w []string
	for number, d := range r.Uses {
		if d >= 0 && r.Declarations[d].Node != number {
			w = append(w, strconv.Itoa(number)+">"+strconv.Itoa(d))
		}
	}
	return strings.Join(w, " ")
}

// problems writes diagnostics of names.
func problems(l []api.Diagnostic) string {
	var w []string
	for _, d := range l {
		code := map[int]string{api.DiagDeclared: "!", api.DiagUnknown: "?"}[d.Code]
		w = append(w, code+d.Text+":"+strconv.Itoa(d.At)+"-"+strconv.Itoa(d.End))
	}
	return strings.Join(w, " ")
}

// P7.1

func TestResolve(t *testing.T) {
	for _, x := range []struct{ s, declared, used string }{
		{"", "", ""},
		{"proc f(){}", "f:P1/-1", ""},
		{"proc f(x){var y=x;g(y);}proc g(z){}", "f:P1/-1 x:p3/1 y:v7/1 g:P12/-1 z:p14/12", "9>1 10>3 11>2"},
		{"record point{px:int,pb:bool}", "point:R1/-1 px:F2/1 pb:F4/1", ""},
		// Records, procedures and fields are visible everywhere, also in front of their declarations and in themselves.
		{"proc f(p:point):point{f(p);return point(p.px);}record point{px:int}", "f:P1/-1 p:p3/1 point:R13/-1 px:F14/13", "4>2 5>2 7>0 8>1 10>2 11>3 12>1"},
		{"proc f(){g();}proc g(){assert f();}", "f:P1/-1 g:P6/-1", "5>1 11>0"},
		// A call can be one of a procedure or of a record.
		{"record r{a:int}proc f(){var x=r(1);var y=f();}", "r:R1/-1 a:F2/1 f:P4/-1 x:v8/4 y:v12/4", "10>0 14>2"},
		{"proc f(var v:int[2],w:int){v[w]=len(v);v=[w,-w];}", "f:P1/-1 v:p3/1 w:p5/1", "11>1 12>2 14>1 16>1 18>2 20>2"},
		// The variable of a for is visible in its block, and not in its bounds or behind it; then the name is free again.
		{"proc f(n){for i=n to n{n=i;}for i=1to 2{var j=i;}for j=1to 2{}}", "f:P1/-1 n:p3/1 i:l7/1 i:l14/1 j:v18/1 j:l21/1", "8>1 9>1 12>1 13>2 20>3"},
		// A variable is visible in the blocks within its block, and behind that no longer.
		{"proc f(c){if c{var a=c;while a{a=c;}}else{var a=c;c=a;}var a=c;}", "f:P1/-1 c:p3/1 a:v10/1 a:v20/1 a:v26/1", "8>1 12>1 14>2 17>2 18>1 22>1 24>1 25>3 28>1"},
		{"proc f(c){if c{}else if c{var a=c;assert a;}else{return;}return c;}", "f:P1/-1 c:p3/1 a:v13/1", "8>1 11>1 15>1 17>2 22>1"},
		// A procedure sees nothing of another one.
		{"proc f(a){var b=a;}proc g(b){var a=b;}", "f:P1/-1 a:p3/1 b:v7/1 g:P10/-1 b:p12/10 a:v16/10", "9>1 18>4"},
		// Fields are apart from all other names.
		{"record r{r:int,f:int,x:bool}proc f(x:r){x.f=x.r;var a=x.x;}", "r:R1/-1 r:F2/1 f:F4/1 x:F6/1 f:P8/-1 x:p10/8 a:v19/8", "11>0 15>2 16>5 17>1 18>5 21>3 22>5"},
	} {
		n := program(t, x.s)
		r, l, e := names.Resolve(n)
		if declared(r.Declarations) != x.declared || used(r) != x.used || len(l) > 0 || e != api.OK || len(r.Uses) != tree.Count(n) {
			t.Errorf("%q:\n%s\n%s\n%s %v", x.s, declared(r.Declarations), used(r), problems(l), e)
		}
		for i, d := range r.Declarations {
			if r.Uses[d.Node] != i {
				t.Errorf("%q: %d", x.s, i)
			}
		}
	}
}

func TestDiagnostics(t *testing.T) {
	for _, x := range []struct{ s, declared, problems string }{
		// Records and procedures share their names.
		{"proc f(){}proc f(){}", "f:P1/-1", "!f:10-20"},
		{"record f{a:int}proc f(){}", "f:R1/-1 a:F2/1", "!f:15-25"},
		{"proc f(){}record f{a:int}", "f:P1/-1 a:F6/5", "!f:10-25"},
		{"record f{a:int}record f{b:int}record f{c:int}", "f:R1/-1 a:F2/1 b:F5/4 c:F8/7", "!f:15-30 !f:30-45"},
		// The fields of all records share theirs.
		{"record r{a:int,a:bool}", "r:R1/-1 a:F2/1", "!a:15-21"},
		{"record r{a:int}record s{b:int,a:bool}", "r:R1/-1 a:F2/1 s:R4/-1 b:F5/4", "!a:30-36"},
		// The fields and variables of what makes no declaration are declared.
		{"proc f(){}proc f(x){x=1;}", "f:P1/-1 x:p7/5", "!f:10-25"},
		{"proc f(x,var x,y){}", "f:P1/-1 x:p3/1 y:p7/1", "!x:9-14"},
		{"proc f(x,f,g){}record g{a:int}", "f:P1/-1 x:p3/1 g:R11/-1 a:F12/11", "!f:9-10 !g:11-12"},
		{"proc f(f,f){}", "f:P1/-1", "!f:7-8 !f:9-10"},
		{"proc f(x){var x=1;}", "f:P1/-1 x:p3/1", "!x:10-18"},
		{"proc f(x){while x{var x=1;for x=1to 2{}}}", "f:P1/-1 x:p3/1", "!x:18-26 !x:26-39"},
		{"proc f(){var x=1;var x=2;}", "f:P1/-1 x:v5/1", "!x:17-25"},
		{"proc f(){if 1{var x=1;}var x=2;if 1{var x=3;}}", "f:P1/-1 x:v8/1 x:v12/1", "!x:36-44"},
		{"proc f(){for i=1to 2{var i=1;for i=1to 2{}}var i=1;}", "f:P1/-1 i:l5/1 i:v16/1", "!i:21-29 !i:29-42"},
		{"proc f(){var f=1;var g=2;for g=1to 2{}}record g{a:int}", "f:P1/-1 g:R15/-1 a:F16/15", "!f:9-17 !g:17-25 !g:25-38"},
		// A use of a declaration that was not made.
		{"proc f(){var f=1;f=2;}", "f:P1/-1", "!f:9-17 ?f:17-18"},
		{"proc f(g){g=1;}proc g(){}", "f:P1/-1 g:P10/-1", "!g:7-8 ?g:10-11"},
		// The expression of a var and the bounds of a for do not see it.
		{"proc f(){var x=x;}", "f:P1/-1 x:v5/1", "?x:15-16"},
		{"proc f(){for i=i to i{i=i;}}", "f:P1/-1 i:l5/1", "?i:15-16 ?i:20-21"},
		{"proc f(){for i=1to 2{}i=1;}", "f:P1/-1 i:l5/1", "?i:22-23"},
		{"proc f(){x=1;var x=1;}", "f:P1/-1 x:v8/1", "?x:9-10"},
		{"proc f(){if 1{var x=1;}else{x=2;}x=3;}", "f:P1/-1 x:v8/1", "?x:28-29 ?x:33-34"},
		{"proc f(){while 1{var x=1;}x=2;}", "f:P1/-1 x:v8/1", "?x:26-27"},
		{"proc f(){while x{var x=1;}}", "f:P1/-1 x:v8/1", "?x:15-16"},
		{"proc f(x){}proc g(){x=1;}", "f:P1/-1 x:p3/1 g:P7/-1", "?x:20-21"},
		// In the order of the nodes: the variable comes ahead of its expression.
		{"proc f(x){var x=y;for x=z to a{b=1;}}", "f:P1/-1 x:p3/1", "!x:10-18 ?y:16-17 !x:18-36 ?z:24-25 ?a:29-30 ?b:31-32"},
		{"proc f(){p.q=r.s;}", "f:P1/-1", "?q:9-12 ?p:9-10 ?s:13-16 ?r:13-14"},
		// What a use can be of.
		{"record r{a:int}proc f(){r(1);a();x();f();f(1);}", "r:R1/-1 a:F2/1 f:P4/-1", "?r:24-29 ?a:29-33 ?x:33-37"},
		{"proc f(x:f,y:x,z:int):a{var b:c=1;}record r{a:int}", "f:P1/-1 x:p3/1 y:p5/1 z:p7/1 b:v11/1 r:R14/-1 a:F15/14", "?f:9-10 ?x:13-14 ?a:22-23 ?c:30-31"},
		{"record r{a:int}proc f(){var x=a;var y=f;var z=r;var b=a()+x();}", "r:R1/-1 a:F2/1 f:P4/-1 x:v8/4 y:v11/4 z:v14/4 b:v17/4", "?a:30-31 ?f:38-39 ?r:46-47 ?a:54-57 ?x:58-61"},
		{"record r{a:int}proc f(x){x.x=x.r+x.f;x.a=len(a)+b[c];}", "r:R1/-1 a:F2/1 f:P4/-1 x:p6/4", "?x:25-28 ?r:29-32 ?f:33-36 ?a:45-46 ?b:48-49 ?c:50-51"},
		{"proc f(){f=1;if a{}assert b;return c;f(d,[e],-g,not h);}", "f:P1/-1", "?f:9-10 ?a:16-17 ?b:26-27 ?c:35-36 ?d:39-40 ?e:42-43 ?g:46-47 ?h:52-53"},
		// The second record with a name is none, but the name stays that of the procedure.
		{"proc f(x:f){f();var a=f();}record f{a:int}", "f:P1/-1 x:p3/1 a:v8/1 a:F12/11", "?f:9-10 !f:27-42"},
	} {
		r, l, e := names.Resolve(program(t, x.s))
		if declared(r.Declarations) != x.declared || problems(l) != x.problems || e != api.OK {
			t.Errorf("%q:\n%s\n%s\n%v", x.s, declared(r.Declarations), problems(l), e)
		}
		for _, d := range l {
			if d.Chain != nil {
				t.Errorf("%q: %v", x.s, d)
			}
		}
	}
}

func TestNodesThatAreWrongHaveNoDeclaration(t *testing.T) {
	r, _, _ := names.Resolve(program(t, "proc f(x,x){var x=y;x=1;g();}proc f(){}"))
	want := []int{-1, 0, -1, 1, -1, -1, -1, -1, -1, -1, -1, -1, -1, 1, -1, -1, -1, -1, -1, -1}
	if !slices.Equal(r.Uses, want) {
		t.Error(r.Uses)
	}
}

// shapeless are trees that are no programs.
func shapeless() []api.Node {
	block, none, parameters := node(api.NodeBlock, ""), node(api.NodeNone, ""), node(api.NodeParameters, "")
	return []api.Node{
		{}, block, node(api.NodeName, "x"), node(api.NodeProgram, "p"), node(99, ""), node(-1, ""),
		node(api.NodeProgram, "", node(api.NodeError, "")),
		node(api.NodeProgram, "", node(api.NodeProcedure, "f", parameters, none)),
		node(api.NodeProgram, "", node(api.NodeProcedure, "if", parameters, none, block)),
		node(api.NodeProgram, "", node(api.NodeProcedure, "f", parameters, none, node(api.NodeBlock, "", node(api.NodeFor, "x")))),
		node(api.NodeProgram, "", node(api.NodeRecord, "r")),
	}
}

func TestTreesWithoutTheShape(t *testing.T) {
	for i, n := range shapeless() {
		r, l, e := names.Resolve(n)
		if r.Declarations != nil || r.Uses != nil || l != nil || e != api.ErrArg {
			t.Error(i, r, l, e)
		}
		m, e := names.Rename(n, -1, "")
		if !reflect.DeepEqual(m, api.Node{}) || e != api.ErrArg {
			t.Error(i, m, e)
		}
		for number := range 12 {
			if l := names.Visible(n, number); l != nil {
				t.Error(i, number, l)
			}
		}
	}
}

// P7.2

func TestVisible(t *testing.T) {
	for _, x := range []struct{ s, want string }{
		{"", " 0:"},
		{"record r{a:int}", " 0: 1: 2: 3:"},
		{"proc f(x){var y=x;g(y);}proc g(z){}", " 0: 1: 2: 3: 4: 5: 6:x 7:x 8:x 9:x 10:xy 11:xy 12: 13: 14: 15: 16: 17:z"},
		{"proc f(x:r,y:int):r{return;}record r{a:int}", " 0: 1: 2: 3: 4: 5: 6: 7: 8:xy 9:xy 10:xy 11: 12: 13:"},
		{"proc f(n){for i=n to 1{n=2;}n=3;}", " 0: 1: 2: 3: 4: 5: 6:n 7:n 8:n 9:n 10:ni 11:ni 12:ni 13:ni 14:n 15:n 16:n"},
		{"proc f(){if a{var b=1;b=2;}else if c{var d:r=1;d=2;}else{}}", " 0: 1: 2: 3: 4: 5: 6: 7: 8: 9: 10: 11:b 12:b 13:b 14: 15: 16: 17: 18: 19: 20:d 21:d 22:d 23:"},
		{"proc f(a){while a{var b=1;for c=1to 2{var d=1;}a=1;}}", " 0: 1: 2: 3: 4: 5: 6:a 7:a 8:a 9:a 10:a 11:a 12:a 13:ab 14:ab 15:ab 16:abc 17:abc 18:abc 19:abc 20:ab 21:ab 22:ab"},
		// Nodes that make no declaration add nothing.
		{"proc f(a,a,f){var a=1;var f=2;for a=1to 2{var b=3;a=4;}}", " 0: 1: 2: 3: 4: 5: 6: 7: 8: 9: 10:a 11:a 12:a 13:a 14:a 15:a 16:a 17:a 18:a 19:a 20:a 21:a 22:a 23:a 24:ab 25:ab 26:ab"},
		{"proc f(a){}proc f(b){b=1;}", " 0: 1: 2: 3: 4: 5: 6:a 7: 8: 9: 10: 11: 12:b 13:b 14:b 15:b"},
	} {
		n := program(t, x.s)
		r, _, _ := names.Resolve(n)
		got := ""
		for number := range tree.Count(n) {
			l := names.Visible(n, number)
			got += " " + strconv.Itoa(number) + ":"
			for _, d := range l {
				got += r.Declarations[d].Name
			}
			if !slices.IsSorted(l) {
				t.Errorf("%q: %d %v", x.s, number, l)
			}
		}
		if got != x.want {
			t.Errorf("%q:\n%s\n%s", x.s, got, x.want)
		}
	}
}

func TestVisibleWithoutANode(t *testing.T) {
	n := program(t, "proc f(x){x=1;}")
	for _, number := range []int{-1, -2, 10, 11, 1 << 40} {
		if l := names.Visible(n, number); l != nil {
			t.Error(number, l)
		}
	}
	if l := names.Visible(n, 9); !slices.Equal(l, []int{1}) || tree.Count(n) != 10 {
		t.Error(l)
	}
}

func TestVisibleIsOrdered(t *testing.T) {
	s := "proc f(z,y,x){"
	for _, name := range []string{"q", "p", "b", "a", "k", "j", "w", "u"} {
		s += "var " + name + "=1;while 1{for i" + name + "=1to 2{"
	}
	n := program(t, s+"x=1;"+strings.Repeat("}", 17))
	r, _, _ := names.Resolve(n)
	l := names.Visible(n, tree.Count(n)-1)
	if len(l) != 19 || len(r.Declarations) != 20 || !slices.IsSorted(l) || l[0] != 1 || l[18] != 19 {
		t.Error(l)
	}
}

// P7.3

func TestUses(t *testing.T) {
	r, _, _ := names.Resolve(program(t, "record r{a:int}proc f(x:r):r{x.a=x.a;return r(x.a);}"))
	for d, want := range [][]int{{1, 7, 8, 16}, {2, 11, 13, 17}, {4}, {6, 12, 14, 18}} {
		if l := names.Uses(r, d); !slices.Equal(l, want) {
			t.Error(d, l)
		}
	}
	for _, d := range []int{-1, -2, 4, 5, 1 << 40} {
		if l := names.Uses(r, d); l != nil {
			t.Error(d, l)
		}
	}
}

func TestUsesOfAnyResolution(t *testing.T) {
	r := api.Resolution{Declarations: make([]api.Declaration, 2), Uses: []int{1, -1, 2, 1, 0, -7, 1 << 40, 1}}
	for d, want := range map[int][]int{0: {4}, 1: {0, 3, 7}, 2: nil, -1: nil, -7: nil, 1 << 40: nil} {
		if l := names.Uses(r, d); !slices.Equal(l, want) {
			t.Error(d, l)
		}
	}
	if l := names.Uses(api.Resolution{Declarations: make([]api.Declaration, 1)}, 0); l != nil {
		t.Error(l)
	}
	if l := names.Uses(api.Resolution{Uses: []int{0, -1}}, 0); l != nil {
		t.Error(l)
	}
}

// P7.4

func TestRename(t *testing.T) {
	s := "record r{a:int}proc f(x:r):r{x.a=1;return r(x.a);}proc g(a){f(a);for i=1to 2{var y=f(a);}for i=1to 3{a=i;}}"
	for _, x := range []struct {
		declaration int
		name, want  string
		e           api.Errno
	}{
		{0, "point", "record point{a:int}proc f(x:point):point{x.a=1;return point(x.a);}proc g(a){f(a);for i=1to 2{var y=f(a);}for i=1to 3{a=i;}}", api.OK},
		{1, "field", "record r{field:int}proc f(x:r):r{x.field=1;return r(x.field);}proc g(a){f(a);for i=1to 2{var y=f(a);}for i=1to 3{a=i;}}", api.OK},
		{2, "h", "record r{a:int}proc h(x:r):r{x.a=1;return r(x.a);}proc g(a){h(a);for i=1to 2{var y=h(a);}for i=1to 3{a=i;}}", api.OK},
		{3, "sixteen_letters_", "record r{a:int}proc f(sixteen_letters_:r):r{sixteen_letters_.a=1;return r(sixteen_letters_.a);}proc g(a){f(a);for i=1to 2{var y=f(a);}for i=1to 3{a=i;}}", api.OK},
		{5, "b", "record r{a:int}proc f(x:r):r{x.a=1;return r(x.a);}proc g(b){f(b);for i=1to 2{var y=f(b);}for i=1to 3{b=i;}}", api.OK},
		{6, "j", "record r{a:int}proc f(x:r):r{x.a=1;return r(x.a);}proc g(a){f(a);for j=1to 2{var y=f(a);}for i=1to 3{a=i;}}", api.OK},
		{7, "z", "record r{a:int}proc f(x:r):r{x.a=1;return r(x.a);}proc g(a){f(a);for i=1to 2{var z=f(a);}for i=1to 3{a=i;}}", api.OK},
		{8, "j", "record r{a:int}proc f(x:r):r{x.a=1;return r(x.a);}proc g(a){f(a);for i=1to 2{var y=f(a);}for j=1to 3{a=j;}}", api.OK},
		// Names that are in use, but not where they would meet.
		{1, "f", "record r{f:int}proc f(x:r):r{x.f=1;return r(x.f);}proc g(a){f(a);for i=1to 2{var y=f(a);}for i=1to 3{a=i;}}", api.OK},
		{3, "i", "record r{a:int}proc f(i:r):r{i.a=1;return r(i.a);}proc g(a){f(a);for i=1to 2{var y=f(a);}for i=1to 3{a=i;}}", api.OK},
		{8, "y", "record r{a:int}proc f(x:r):r{x.a=1;return r(x.a);}proc g(a){f(a);for i=1to 2{var y=f(a);}for y=1to 3{a=y;}}", api.OK},
		{4, "g", s, api.OK},
		{0, "a", "", api.ErrExists}, {0, "f", "", api.ErrExists}, {0, "y", "", api.ErrExists}, {2, "g", "", api.ErrExists}, {2, "i", "", api.ErrExists},
		{5, "y", "", api.ErrExists}, {5, "i", "", api.ErrExists}, {5, "r", "", api.ErrExists}, {5, "g", "", api.ErrExists},
		{6, "y", "", api.ErrExists}, {6, "a", "", api.ErrExists}, {7, "i", "", api.ErrExists}, {8, "f", "", api.ErrExists},
		{0, "", "", api.ErrName}, {0, "seventeen_letters", "", api.ErrName}, {0, "int", "", api.ErrName}, {0, "if", "", api.ErrName}, {1, "A", "", api.ErrName}, {1, "x ", "", api.ErrName}, {1, "1", "", api.ErrName}, {1, "x\x00", "", api.ErrName},
		{-1, "y", "", api.ErrNotFound}, {9, "", "", api.ErrNotFound}, {1 << 40, "if", "", api.ErrNotFound},
	} {
		n := program(t, s)
		m, e := names.Rename(n, x.declaration, x.name)
		if e != x.e {
			t.Error(x.declaration, x.name, e)
			continue
		}
		if e != api.OK && !reflect.DeepEqual(m, api.Node{}) {
			t.Error(x.declaration, x.name, m)
		}
		if e == api.OK && !tree.Same(m, program(t, x.want)) {
			t.Error(x.declaration, x.name)
		}
		if e == api.OK && !samePlaces(m, n) {
			t.Error(x.declaration, x.name, "places")
		}
	}
}

// samePlaces reports whether two trees have the same nodes at the same places, whatever their Texts are.
func samePlaces(a, b api.Node) bool {
	return a.Kind == b.Kind && a.At == b.At && a.End == b.End && slices.EqualFunc(a.Kids, b.Kids, samePlaces)
}

func TestRenameWithDiagnostics(t *testing.T) {
	for _, s := range []string{"proc f(){x=1;}", "proc f(){}proc f(){}", "proc f(x,x){}", "proc f(){g();}"} {
		for _, declaration := range []int{-1, 0, 1} {
			for _, name := range []string{"", "y", "if"} {
				if m, e := names.Rename(program(t, s), declaration, name); e != api.ErrArg || m.Kids != nil {
					t.Error(s, declaration, name, m, e)
				}
			}
		}
	}
}

// P7.5

func TestFree(t *testing.T) {
	for _, x := range []struct{ s, want string }{
		{"if a { var b = c; d = b; }", "a c d"},
		{"x=x+y*x;", "x y"},
		{"b=a;", "b a"},
		{"f(1,true);", ""},
		{"f(a[i],p.q,len(l),-n,not m,[k,a],g(i,j));", "a i p l n m k j"},
		{"p.q=z;", "p z"},
		{"a[i]=a[j];", "a i j"},
		{"return;", ""},
		{"return x;", "x"},
		{"assert x==y;", "x y"},
		{"var x=x;", "x"},
		{"while x{var x=y;y=x;}", "x y"},
		{"while c{var x=1;}", "c"},
		{"for i=i to n{m=i;}", "i n m"},
		{"for i=1to 2{var j=i;k=j;}", "k"},
		{"if a{var x=1;}else{x=2;}", "a x"},
		{"if a{x=1;var x=2;x=3;}", "a x"},
		{"if a{var x=1;if x{var y=x;}else if y{x=y;}}", "a y"},
		{"while a{if a{var x=1;}x=2;}", "a x"},
		{"while a{var x=1;while x{var x=x;x=x;}x=x;}", "a"},
		{"while a{for x=1to 2{var x=1;y=x;}y=x;}", "a y x"},
		{"for i=1to 2{for i=i to 3{a=i;}a=i;}", "a"},
		{"while z{y=x;}", "z y x"},
	} {
		n, l, e := parser.Statement(x.s)
		if len(l) > 0 || e != api.OK {
			t.Fatal(x.s, l, e)
		}
		if got := strings.Join(names.Free(n), " "); got != x.want {
			t.Errorf("%q: %s", x.s, got)
		}
	}
}

// TestFreeOfAnyTree uses nodes that stand where they cannot stand in a program.
func TestFreeOfAnyTree(t *testing.T) {
	name := func(s string) api.Node { return node(api.NodeName, s) }
	declaration := func(s string, kids ...api.Node) api.Node { return node(api.NodeVar, s, kids...) }
	for i, x := range []struct {
		n    api.Node
		want string
	}{
		{api.Node{}, ""},
		{name("x"), "x"},
		{name(""), ""},
		{node(99, "", name("b"), name("a"), name("b")), "b,a"},
		{node(api.NodeName, "x", name("y"), name("x")), "x,y"},
		{node(api.NodeName, "x y", name("if")), "x y,if"},
		// Parameters, procedures, records and fields do not count.
		{node(api.NodeProgram, "", node(api.NodeProcedure, "f", node(api.NodeParameters, "", node(api.NodeParameter, "x", node(api.NodeNone, ""))), node(api.NodeNone, ""), node(api.NodeBlock, "", name("x"), name("f")))), "x,f"},
		{node(api.NodeProgram, "", node(api.NodeRecord, "r", node(api.NodeField, "a")), node(api.NodeMember, "a", name("r"))), "r"},
		// A var counts in the Kids of any node, also of another var, of a name and of a for.
		{node(api.NodeBinary, "+", name("x"), declaration("x"), name("x")), "x"},
		{node(api.NodeBinary, "+", declaration("x"), name("x"), node(api.NodeIf, "", name("x"))), ""},
		{declaration("x", declaration("y"), name("y"), name("x")), "x"},
		{node(api.NodeName, "a", declaration("a"), name("a"), name("b")), "a,b"},
		{node(api.NodeFor, "i", declaration("j"), name("j"), name("j"), name("j")), ""},
		{node(api.NodeBlock, "", node(api.NodeBlock, "", declaration("x")), name("x")), "x"},
		{node(api.NodeBlock, "", declaration("x", declaration("y")), name("y"), name("x")), "y"},
		// A for counts for its third kid alone.
		{node(api.NodeFor, "i", name("a"), name("b"), name("i"), name("c")), "a,b,c"},
		{node(api.NodeFor, "i", name("a"), name("b"), name("b"), name("i")), "a,b,i"},
		{node(api.NodeFor, "i", name("i")), "i"},
		{node(api.NodeFor, "i", name("a"), name("i")), "a,i"},
		{node(api.NodeFor, "i"), ""},
		{node(api.NodeBlock, "", node(api.NodeFor, "i", name("a"), name("a"), name("i")), name("i")), "a,i"},
		{node(api.NodeWhile, "i", name("a"), name("a"), name("i")), "a,i"},
		{node(api.NodeFor, "i", name("a"), name("a"), declaration("j", name("i")), name("j")), "a"},
		{node(api.NodeFor, "i", name("a"), name("a"), declaration("i", name("i")), name("i")), "a"},
		{node(api.NodeBlock, "", declaration(""), name("")), ""},
	} {
		l := names.Free(x.n)
		if got := strings.Join(l, ","); got != x.want || len(l) > 0 != (x.want != "" || i == 2) {
			t.Error(i, l)
		}
	}
}

// Every function terminates, also for trees with as many levels, or as many nodes, as there can be.

func TestManyLevels(t *testing.T) {
	name := node(api.NodeName, "x")
	n := node(api.NodeBlock, "")
	for range 1 << 15 {
		v := node(api.NodeVar, "y", node(api.NodeNone, ""), name)
		n = node(api.NodeBlock, "", v, node(api.NodeWhile, "", name, n))
	}
	n = node(api.NodeProgram, "", node(api.NodeProcedure, "f", node(api.NodeParameters, "", node(api.NodeParameter, "x", node(api.NodeNone, ""))), node(api.NodeNone, ""), n))
	r, l, e := names.Resolve(n)
	if len(r.Declarations) != 3 || len(l) != 1<<15-1 || e != api.OK {
		t.Error(len(r.Declarations), len(l), e)
	}
	if l := names.Visible(n, tree.Count(n)-1); len(l) != 2 {
		t.Error(l)
	}
	if l := names.Free(n); !slices.Equal(l, []string{"x"}) {
		t.Error(l)
	}
}

func TestManyNodes(t *testing.T) {
	n := node(api.NodeBlock, "")
	last := "x"
	for i := range 1 << 15 {
		n.Kids = append(n.Kids, node(api.NodeVar, "v"+strconv.Itoa(i), node(api.NodeNone, ""), node(api.NodeName, last)))
		last = "v" + strconv.Itoa(i)
	}
	n = node(api.NodeProgram, "", node(api.NodeProcedure, "f", node(api.NodeParameters, "", node(api.NodeParameter, "x", node(api.NodeNone, ""))), node(api.NodeNone, ""), n))
	m, e := names.Rename(n, 1, "other")
	r, l, _ := names.Resolve(m)
	if e != api.OK || len(l) > 0 || len(r.Declarations) != 1<<15+2 || r.Declarations[1].Name != "other" || m.Kids[0].Kids[2].Kids[0].Kids[1].Text != "other" {
		t.Error(e, len(l), len(r.Declarations))
	}
}
