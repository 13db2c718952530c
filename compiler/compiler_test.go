package compiler_test

import (
	"math"
	"reflect"
	"slices"
	"strings"
	"testing"

	"assessor/api"
	"assessor/checker"
	"assessor/compiler"
	"assessor/tree"
)

func checked(t *testing.T, s string) api.Program {
	t.Helper()
	p, l, e := checker.Check(s)
	if len(l) > 0 || e != api.OK {
		t.Fatal(s, l, e)
	}
	return p
}

func compiled(t *testing.T, s string) api.Code {
	t.Helper()
	c, e := compiler.Compile(checked(t, s))
	if e != api.OK || !compiler.Valid(c) {
		t.Fatal(s, c, e)
	}
	return c
}

// short returns the text of code as one line, without the indentation.
func short(c api.Code) string {
	var lines []string
	for line := range strings.Lines(compiler.Format(c)) {
		lines = append(lines, strings.TrimSpace(line))
	}
	return strings.Join(lines, "; ")
}

// long returns the text with such a line.
func long(s string) string { return strings.ReplaceAll(s, "; ", "\n") }

func parsed(t *testing.T, s string) api.Code {
	t.Helper()
	c, e := compiler.Parse(long(s))
	if e != api.OK {
		t.Fatal(s, e)
	}
	return c
}

// P14.1

// The variables of f have the slots 0, 1, 2 to 4, and 5 to 6.
const prelude = "record r { k: int, m: bool } proc g(x: int, a: int[2]): int[2] { return a; } proc h(var y: int, x: int, var a: int[2]) { } proc f(x: int, b: bool, a: int[3], p: r)"

func TestStatements(t *testing.T) {
	for _, c := range [][3]string{
		{"x = 12;", "7", "push 12; store 0"}, {"x = 999999999;", "7", "push 999999999; store 0"}, {"x = 007;", "7", "push 7; store 0"}, {"b = true;", "7", "push 1; store 1"}, {"b = false;", "7", "push 0; store 1"},
		{"x = len(a);", "7", "push 3; store 0"}, {"x = x;", "7", "load 0; store 0"}, {"a = a;", "7", "load 2; load 3; load 4; store 4; store 3; store 2"}, {"p = p;", "7", "load 5; load 6; store 6; store 5"},
		{"x = a[x + 1];", "7", "load 0; push 1; add; loadat 2 3; store 0"}, {"a[x] = a[1];", "7", "load 0; push 1; loadat 2 3; storeat 2 3"},
		{"x = p.k;", "7", "load 5; store 0"}, {"b = p.m;", "7", "load 6; store 1"}, {"p.k = 5;", "7", "push 5; store 5"}, {"p.m = b;", "7", "load 1; store 6"},
		{"a = [1, x, 3];", "7", "push 1; load 0; push 3; store 4; store 3; store 2"}, {"p = r(x, b);", "7", "load 0; load 1; store 6; store 5"},
		{"x = -x;", "7", "load 0; negate; store 0"}, {"b = not b;", "7", "load 1; not; store 1"},
		{"x = x + 1;", "7", "load 0; push 1; add; store 0"}, {"x = x - 1;", "7", "load 0; push 1; sub; store 0"}, {"x = x * 1;", "7", "load 0; push 1; mul; store 0"}, {"x = x / 1;", "7", "load 0; push 1; div; store 0"}, {"x = x % 1;", "7", "load 0; push 1; mod; store 0"},
		{"b = x == 1;", "7", "load 0; push 1; equal; store 1"}, {"b = b != p.m;", "7", "load 1; load 6; unequal; store 1"}, {"b = x < 1;", "7", "load 0; push 1; less; store 1"}, {"b = x <= 1;", "7", "load 0; push 1; atmost; store 1"}, {"b = x > 1;", "7", "load 0; push 1; greater; store 1"}, {"b = x >= 1;", "7", "load 0; push 1; atleast; store 1"},
		{"b = b and p.m;", "7", "load 1; if; load 6; else; push 0; end; store 1"}, {"b = b or p.m;", "7", "load 1; if; push 1; else; load 6; end; store 1"}, {"b = b or p.m and x == 1;", "7", "load 1; if; push 1; else; load 6; if; load 0; push 1; equal; else; push 0; end; end; store 1"},
		{"var y = x;", "8", "load 0; store 7"}, {"var y: bool = b; var z = a; y = z[0] == 1;", "11", "load 1; store 7; load 2; load 3; load 4; store 10; store 9; store 8; push 0; loadat 8 3; push 1; equal; store 7"},
		{"var c = g(x, [1, 2]);", "9", "load 0; push 1; push 2; call 0; store 8; store 7"}, {"var c = [1, 2]; h(x, 3, c);", "9", "push 1; push 2; store 8; store 7; load 0; push 3; load 7; load 8; call 1; store 8; store 7; store 0"}, {"var c = [1, 2]; h(a[0], 3, c);", "", ""},
		{"if b { x = 1; }", "7", "load 1; if; push 1; store 0; else; end"}, {"if b { x = 1; } else { x = 2; }", "7", "load 1; if; push 1; store 0; else; push 2; store 0; end"}, {"if b { } else if p.m { x = 1; } else { x = 2; }", "7", "load 1; if; else; load 6; if; push 1; store 0; else; push 2; store 0; end; end"}, {"if b { x = 1; x = 2; } else if p.m { }", "7", "load 1; if; push 1; store 0; push 2; store 0; else; load 6; if; else; end; end"},
		{"while x > 0 { x = 1; }", "7", "loop; load 0; push 0; greater; do; push 1; store 0; end"}, {"while b and p.m { }", "7", "loop; load 1; if; load 6; else; push 0; end; do; end"},
		{"for i = 1 to x { }", "10", "push 1; store 7; load 0; store 8; load 7; load 8; atmost; store 9; loop; load 9; do; load 7; load 8; less; store 9; load 7; push 1; add; store 7; end"},
		{"for i = x + 1 to 2 { x = i; }", "10", "load 0; push 1; add; store 7; push 2; store 8; load 7; load 8; atmost; store 9; loop; load 9; do; load 7; store 0; load 7; load 8; less; store 9; load 7; push 1; add; store 7; end"},
		{"for i = 1 to 2 { for j = 3 to i { var y = j; } } for k = 5 to 6 { }", "17", "push 1; store 7; push 2; store 11; load 7; load 11; atmost; store 12; loop; load 12; do; push 3; store 8; load 7; store 13; load 8; load 13; atmost; store 14; loop; load 14; do; load 8; store 9; load 8; load 13; less; store 14; load 8; push 1; add; store 8; end; load 7; load 11; less; store 12; load 7; push 1; add; store 7; end; push 5; store 10; push 6; store 15; load 10; load 15; atmost; store 16; loop; load 16; do; load 10; load 15; less; store 16; load 10; push 1; add; store 10; end"},
		{"return; x = 1;", "7", "return; push 1; store 0"}, {"assert b;", "7", "load 1; assert"}, {"while b { return; }", "7", "loop; load 1; do; return; end"},
	} {
		s := prelude + " { " + c[0] + " }"
		if c[1] == "" {
			if _, l, _ := checker.Check(s); len(l) == 0 {
				t.Error(s)
			}
			continue
		}
		want := "proc g 3 3 2; load 1; load 2; return; end; proc h 4 4 -1 0 2 3; end; proc f 7 " + c[1] + " -1; " + c[2] + "; end"
		if got := short(compiled(t, s)); got != want {
			t.Errorf("%s\n%s instead of\n%s", c[0], got, want)
		}
	}
}

func TestProcedures(t *testing.T) {
	for s, want := range map[string]string{
		"":                     "",
		"proc f() { }":         "proc f 0 0 -1; end",
		"proc f(): int { }":    "proc f 0 0 1; end",
		"proc f(): int[3] { }": "proc f 0 0 3; end",
		"record r { k: int, m: bool } proc f(x: r, y: int): r { return x; }":                           "proc f 3 3 2; load 0; load 1; return; end",
		"proc f(var x: int, y: bool, var a: int[2]) { var z = y; }":                                    "proc f 4 5 -1 0 2 3; load 1; store 4; end",
		"proc f() { g(); k(); } proc g() { h(); } proc h() { } proc k() { h(); }":                      "proc h 0 0 -1; end; proc g 0 0 -1; call 0; end; proc k 0 0 -1; call 0; end; proc f 0 0 -1; call 1; call 2; end",
		"proc f(x: int): int { return g(g(x) + 1); } proc g(x: int): int { return -x; }":               "proc g 1 1 1; load 0; negate; return; end; proc f 1 1 1; load 0; call 0; push 1; add; call 0; return; end",
		"proc f(x: int): int { for i = x to 2 { return i; } return x; } proc a() { for i = 0 to 0 {}}": "proc f 1 4 1; load 0; store 1; push 2; store 2; load 1; load 2; atmost; store 3; loop; load 3; do; load 1; return; load 1; load 2; less; store 3; load 1; push 1; add; store 1; end; load 0; return; end; proc a 0 3 -1; push 0; store 0; push 0; store 1; load 0; load 1; atmost; store 2; loop; load 2; do; load 0; load 1; less; store 2; load 0; push 1; add; store 0; end; end",
	} {
		if got := short(compiled(t, s)); got != want {
			t.Errorf("%s\n%s instead of\n%s", s, got, want)
		}
	}
	if c, e := compiler.Compile(api.Program{}); len(c.Procedures) > 0 || e != api.OK {
		t.Error(c, e)
	}
}

// places returns the texts of the nodes of all instructions of a procedure.
func places(t *testing.T, s string, procedure int) string {
	p := checked(t, s)
	l, e := compiler.Places(p)
	if e != api.OK || len(l) != len(p.Procedures) {
		t.Fatal(s, l, e)
	}
	var words []string
	for _, number := range l[procedure] {
		path, _ := tree.Path(p.Tree, number)
		n, _ := tree.Get(p.Tree, path...)
		words = append(words, s[n.At:n.End])
	}
	return strings.Join(words, "|")
}

func TestPlaces(t *testing.T) {
	for _, c := range [][2]string{
		{"a[x] = x + 1;", "x|x|1|x + 1|a[x]"}, {"x = a[x];", "x|a[x]|x = a[x];"}, {"a = [x, len(a)];", "x|len(a)|a = [x, len(a)];|a = [x, len(a)];"}, {"var y = a;", "a|a|var y = a;|var y = a;"},
		{"p.k = -p.k;", "p.k|-p.k|p.k = -p.k;"}, {"p = r(2);", "2|p = r(2);"}, {"h(x, g(a), b);", "x|a|a|g(a)|b|h(x, g(a), b);|h(x, g(a), b);|h(x, g(a), b);"},
		{"b = b and not b;", "b|b and not b|b|not b|b and not b|b = b and not b;"}, {"b = b or true;", "b|b or true|b or true|true|b = b or true;"},
		{"if b { x = 1; } else if x == 2 { assert b; }", "b|if b { x = 1; } else if x == 2 { assert b; }|1|x = 1;|x|2|x == 2|if x == 2 { assert b; }|b|assert b;"},
		{"while b { b = false; return; }", "while b { b = false; return; }|false|b = false;|return;|b"},
		{"for i = 0 to x { x = i; }", "0|F|x|F|F|F|F|F|F|i|x = i;|F|F|F|F|F|F|F|F|F"},
	} {
		s := "record r { k: int } proc h(var x: int, y: int, var z: bool) { } proc g(a: int[2]): int { return a[0]; } proc f(x: int, b: bool, a: int[2], p: r) { " + c[0] + " }"
		if got, want := places(t, s, 2), strings.ReplaceAll(c[1], "F", c[0]); got != want {
			t.Errorf("%s\n%s instead of\n%s", c[0], got, want)
		}
	}
	s := "proc f(): int { return g(); } proc g(): int { return 7; }"
	if one, two := places(t, s, 0), places(t, s, 1); one != "7|return 7;" || two != "g()|return g();" {
		t.Error(one, two)
	}
	if l, e := compiler.Places(api.Program{}); len(l) > 0 || e != api.OK {
		t.Error(l, e)
	}
}

func TestTooManyScalars(t *testing.T) {
	// Each level has 40 scalars on the stack when the next one begins.
	nested := func(levels int) string {
		x := strings.Repeat("f(a,a,a,a,a,", levels) + "1" + strings.Repeat(")", levels)
		return "proc f(a: int[8], b: int[8], c: int[8], d: int[8], e: int[8], x: int): int { return x; } proc g(a: int[8]): int { return " + x + "; }"
	}
	c := compiled(t, nested(25))
	if l, e := compiler.Places(checked(t, nested(25))); e != api.OK || len(l) != len(c.Procedures) {
		t.Error(l, e)
	}
	p := checked(t, nested(26))
	if c, e := compiler.Compile(p); len(c.Procedures) > 0 || e != api.ErrTooLarge {
		t.Error(c, e)
	}
	if l, e := compiler.Places(p); len(l) > 0 || e != api.ErrTooLarge {
		t.Error(l, e)
	}
}

// P14.2

// list returns the instructions with a text.
func list(t *testing.T, s string) []api.Instr {
	t.Helper()
	c, e := compiler.Parse("proc f 0 1 -1\n" + long(s) + "\nend")
	if e != api.OK {
		t.Fatal(s, e)
	}
	return c.Procedures[0].Body
}

func TestWellFormedLists(t *testing.T) {
	for s, want := range map[string]bool{
		"": true, "push 0; store 4": true, "push 999999999; assert": true, "push -1; assert": false, "load 4; assert": true, "load 5; assert": false, "load -1; assert": false, "push 1; store 5": false, "push 1; store -1": false,
		"push 1": false, "store 0": false, "assert": false, "negate": false, "not": false, "push 1; negate": false, "push 1; not; assert": true, "push 1; negate; assert": true,
		"push 1; add; assert": false, "push 1; push 1; add; assert": true, "push 1; push 2; push 3; add; assert": false, "push 1; push 1; atleast; assert": true, "push 1; atleast; assert": false, "push 1; push 1; sub; add; assert": false, "push 1; push 1; push 1; mul; div; assert": true, "push 1; push 1; push 1; mod; equal; assert": true, "push 1; push 1; push 1; unequal; less; assert": true, "push 1; push 1; push 1; atmost; greater; assert": true,
		"push 1; loadat 0 5; assert": true, "push 1; loadat 4 1; assert": true, "push 1; loadat 4 2; assert": false, "push 1; loadat 0 0; assert": false, "push 1; loadat 0 6; assert": false, "push 1; loadat 5 1; assert": false, "push 1; loadat -1 2; assert": false, "push 1; loadat 2 -1; assert": false, "loadat 0 5; assert": false, "push 1; loadat 0 5": false,
		"push 1; push 1; storeat 0 5": true, "push 1; push 1; storeat 3 2": true, "push 1; push 1; storeat 3 3": false, "push 1; push 1; storeat 3 0": false, "push 1; storeat 0 5": false,
		"push 1; if; else; end": true, "if; else; end": false, "push 1; if; push 1; store 0; else; end": true, "push 1; if; push 1; else; end": false, "push 1; if; push 1; else; push 2; end; assert": true, "push 1; if; push 1; else; push 2; end": false, "push 1; if; push 1; push 1; else; push 2; end; assert": false, "push 1; if; else; push 2; end": false,
		"push 1; push 1; if; assert; else; assert; end": false, "push 1; push 1; if; push 1; else; push 2; end; add; assert": true, "push 1; push 1; if; else; end; assert": true,
		"push 1; push 1; if; return; else; end; assert": false, "push 1; if; return; else; end": true, "push 1; if; push 1; if; return; else; return; end; else; end": true, "push 1; if; else; return; end": true, "push 1; if; push 1; push 1; if; return; else; end; assert; else; end": false,
		"return": true, "return; return; push 1; assert": true, "push 1; return": false, "push 1; return; assert": false,
		"loop; push 1; do; end": true, "loop; do; end": false, "loop; push 1; push 1; do; end": false, "loop; push 1; do; push 1; end": false, "loop; push 1; do; return; end": true, "loop; return; push 1; do; end": false, "push 1; loop; push 1; do; end; assert": false, "push 1; if; loop; push 1; do; end; else; loop; push 1; do; loop; push 1; do; return; end; end; end": true, "loop; loop; push 1; do; end; push 1; do; end": false, "loop; push 1; if; push 1; else; push 0; end; do; push 1; if; return; else; end; end": true, "loop; push 1; if; return; else; end; push 1; do; end": false, "loop; push 1; if; loop; push 1; do; end; else; end; push 1; do; end": false, "push 1; push 1; if; loop; push 1; do; end; else; end; assert": false,
		"call 0; store 0; store 0": true, "call 0": false, "push 1; call 1": true, "call 1": false, "push 1; call 1; assert": false, "push 1; push 2; call 2; assert; assert; assert": true, "push 1; call 2": false, "call 3": false, "call -1": false, "push 1; push 1; call 1; assert": true,
	} {
		// These procedures have no parameters and 2 scalars, 1 and nothing, 2 and 3.
		s = "proc a 0 0 2; push 1; push 1; return; end; proc b 1 1 -1; end; proc c 2 3 -1 0 2 2; end; proc f 1 5 -1 3; " + s + "; end"
		c, e := compiler.Parse(long(s))
		if (e == api.OK) != want || !want && e != api.ErrArg {
			t.Error(s, e)
		}
		if want && (!compiler.Valid(c) || short(c) != strings.ReplaceAll(s, "; ; ", "; ")) {
			t.Error(s, short(c))
		}
	}
}

func TestResults(t *testing.T) {
	for s, want := range map[string]bool{
		"proc f 0 0 0; return; end": true, "proc f 0 0 0; push 1; return; end": false, "proc f 0 0 1; push 1; return; end": true, "proc f 0 0 1; return; end": false, "proc f 0 0 1; end": true, "proc f 0 0 1; push 1; end": false, "proc f 0 0 2; push 1; push 2; return; push 1; push 2; return; end": true, "proc f 0 0 2; push 1; push 2; push 3; return; end": false,
		"proc f 0 0 1; push 1; if; push 1; return; else; push 2; return; end; end": true, "proc f 0 0 1; push 1; if; push 1; return; else; push 2; end; return; end": false, "proc f 0 0 1; push 1; if; push 1; else; push 2; end; return; end": true, "proc f 0 0 1; push 3; push 1; if; return; else; end; end": false,
		"proc f 0 0 1; loop; push 1; do; push 2; return; end; end":     true,
		"proc g 0 0 0; end; proc f 0 0 1; call 0; push 1; return; end": true, "proc g 0 0 1; end; proc f 0 0 1; call 0; return; end": true, "proc g 0 1 -1 0; end; proc f 0 0 1; call 0; return; end": true,
	} {
		if _, e := compiler.Parse(long(s)); (e == api.OK) != want || !want && e != api.ErrArg {
			t.Error(s, e)
		}
	}
}

func TestWellFormedHeaders(t *testing.T) {
	f := func(change func(*api.CodeProcedure)) api.CodeProcedure {
		x := api.CodeProcedure{Name: "f", Parameters: 1, Slots: 3, Result: -1, Outputs: []int{0, 2, 2}}
		change(&x)
		return x
	}
	for i, c := range []struct {
		change func(*api.CodeProcedure)
		want   bool
	}{
		{func(x *api.CodeProcedure) {}, true}, {func(x *api.CodeProcedure) { x.Name = "" }, false}, {func(x *api.CodeProcedure) { x.Name = "if" }, false}, {func(x *api.CodeProcedure) { x.Name = "X" }, false}, {func(x *api.CodeProcedure) { x.Name = "f " }, false}, {func(x *api.CodeProcedure) { x.Name = strings.Repeat("a", api.MaxName) }, true}, {func(x *api.CodeProcedure) { x.Name = strings.Repeat("a", api.MaxName+1) }, false}, {func(x *api.CodeProcedure) { x.Name = "end" }, true},
		{func(x *api.CodeProcedure) { x.Parameters = 0 }, true}, {func(x *api.CodeProcedure) { x.Parameters = -1 }, false}, {func(x *api.CodeProcedure) { x.Parameters = 3 }, true}, {func(x *api.CodeProcedure) { x.Parameters = 4 }, false}, {func(x *api.CodeProcedure) { x.Parameters, x.Slots, x.Outputs = -1, -1, nil }, false}, {func(x *api.CodeProcedure) { x.Slots = api.MaxNodes }, true}, {func(x *api.CodeProcedure) { x.Slots = api.MaxNodes + 1 }, false}, {func(x *api.CodeProcedure) { x.Slots = 2 }, false},
		{func(x *api.CodeProcedure) { x.Result = -2 }, false}, {func(x *api.CodeProcedure) { x.Result, x.Outputs = -2, nil }, false}, {func(x *api.CodeProcedure) { x.Result = 0 }, false}, {func(x *api.CodeProcedure) { x.Result, x.Outputs = 0, nil }, true}, {func(x *api.CodeProcedure) { x.Result, x.Outputs = api.MaxSlots, []int{} }, true}, {func(x *api.CodeProcedure) { x.Result, x.Outputs = api.MaxSlots+1, nil }, false},
		{func(x *api.CodeProcedure) { x.Outputs = []int{3} }, false}, {func(x *api.CodeProcedure) { x.Outputs = []int{-1} }, false}, {func(x *api.CodeProcedure) { x.Outputs = make([]int, api.MaxSlots) }, true}, {func(x *api.CodeProcedure) { x.Outputs = make([]int, api.MaxSlots+1) }, false}, {func(x *api.CodeProcedure) { x.Outputs = nil }, true},
		{func(x *api.CodeProcedure) { x.Body = []api.Instr{} }, true}, {func(x *api.CodeProcedure) { x.Body = []api.Instr{{}} }, false},
	} {
		if got := compiler.Valid(api.Code{Procedures: []api.CodeProcedure{f(c.change)}}); got != c.want {
			t.Error(i, got)
		}
	}
	var many []api.CodeProcedure
	for i := range api.MaxProcedures + 1 {
		if !compiler.Valid(api.Code{Procedures: many}) {
			t.Error(i)
		}
		if i > 0 && compiler.Valid(api.Code{Procedures: append(slices.Clone(many), many[0])}) {
			t.Error("two with a name", i)
		}
		many = append(many, f(func(x *api.CodeProcedure) { x.Name = string(rune('a' + i)) }))
	}
	if compiler.Valid(api.Code{Procedures: many}) {
		t.Error("too many")
	}
}

func TestWellFormedInstructions(t *testing.T) {
	one, found := []api.Instr{{Op: api.InstrReturn}}, map[bool]int{}
	for op := -2; op <= api.InstrAssert+2; op++ {
		for _, change := range []func(*api.Instr){
			func(*api.Instr) {}, func(i *api.Instr) { i.A++ }, func(i *api.Instr) { i.B++ }, func(i *api.Instr) { i.Body = one }, func(i *api.Instr) { i.Else = one }, func(i *api.Instr) { i.Body, i.Else = []api.Instr{}, []api.Instr{} }, func(i *api.Instr) { i.A = -1 }, func(i *api.Instr) { i.B = -1 },
			func(i *api.Instr) { i.A = math.MaxInt }, func(i *api.Instr) { i.B = math.MaxInt }, func(i *api.Instr) { i.A, i.B = math.MinInt, math.MinInt }, func(i *api.Instr) { i.A, i.B = math.MaxInt, math.MaxInt }, func(i *api.Instr) { i.A, i.B = 1, math.MaxInt }, func(i *api.Instr) { i.A = api.MaxNumber }, func(i *api.Instr) { i.A = api.MaxNumber + 1 },
		} {
			i := api.Instr{Op: op}
			change(&i)
			for before := range 3 {
				for behind := range 5 {
					l := slices.Concat(repeat(before, api.Instr{}), []api.Instr{i}, repeat(behind, api.Instr{Op: api.InstrAssert}))
					c := api.Code{Procedures: []api.CodeProcedure{{Name: "a", Result: -1}, {Name: "b", Slots: 2, Result: -1, Body: l}}}
					if got, want := compiler.Valid(c), wellFormed(c); got != want {
						t.Error(c, got)
					}
					found[compiler.Valid(c)]++
				}
			}
		}
	}
	if found[true] < 50 || found[false] < 5000 {
		t.Error(found)
	}
}

func repeat(n int, l ...api.Instr) []api.Instr { return slices.Repeat(l, n) }

func TestLimitsOfCode(t *testing.T) {
	push, assert, no := api.Instr{Op: api.InstrPush}, api.Instr{Op: api.InstrAssert}, api.Instr{Op: api.InstrReturn}
	code := func(l ...api.Instr) api.Code {
		return api.Code{Procedures: []api.CodeProcedure{{Name: "two", Slots: 1, Result: -1, Outputs: []int{0, 0}}, {Name: "f", Result: -1, Body: l}}}
	}
	for n, want := range map[int]bool{api.MaxNodes: true, api.MaxNodes + 1: false} {
		if compiler.Valid(code(slices.Concat(repeat(n, push), repeat(n, assert))...)) != want {
			t.Error(n)
		}
		// The last two scalars come from a call, or from both lists of an if.
		if compiler.Valid(code(slices.Concat(repeat(n-2, push), repeat(1, api.Instr{Op: api.InstrCall}), repeat(n, assert))...)) != want {
			t.Error(n)
		}
		choice := api.Instr{Op: api.InstrIf, Body: repeat(2, push), Else: repeat(2, push)}
		if compiler.Valid(code(slices.Concat(repeat(n-1, push), []api.Instr{choice, {Op: api.InstrAdd}}, repeat(n-1, assert))...)) != want {
			t.Error(n)
		}
	}
	for n, want := range map[int]bool{1 << 15: true, 1<<15 + 1: false} {
		c := code(repeat(n-3, no)...)
		c.Procedures[0].Body = []api.Instr{push, {Op: api.InstrIf, Body: repeat(1, no)}}
		if compiler.Valid(c) != want {
			t.Error(n)
		}
	}
	for levels := 1; levels <= 300; levels++ {
		for kind := range 3 {
			l := repeat(1, no)
			for range levels - 1 {
				l = []api.Instr{push, {Op: api.InstrIf, Body: l}}
				switch kind {
				case 1:
					l[1].Body, l[1].Else = nil, l[1].Body
				case 2:
					l = []api.Instr{{Op: api.InstrLoop, Body: l[1].Body, Else: repeat(1, push)}}
				}
			}
			if got := compiler.Valid(code(l...)); got != (levels <= 256) {
				t.Error(levels, kind, got)
			}
		}
		// The condition of a loop is a level, and empty lists are none.
		empty, loop := []api.Instr{push, {Op: api.InstrIf}}, []api.Instr{{Op: api.InstrLoop, Else: repeat(1, push)}}
		for range levels - 1 {
			empty, loop = []api.Instr{push, {Op: api.InstrIf, Else: empty}}, []api.Instr{push, {Op: api.InstrIf, Body: loop}}
		}
		if one, two := compiler.Valid(code(empty...)), compiler.Valid(code(loop...)); one != (levels <= 256) || two != (levels <= 255) {
			t.Error(levels, one, two)
		}
	}
	deep := repeat(1, no)
	for range 1 << 16 {
		deep = []api.Instr{push, {Op: api.InstrIf, Body: deep}}
	}
	if compiler.Valid(code(deep...)) || compiler.Format(code(deep...)) != "" {
		t.Error("deep")
	}
	// Shared lists count as often as they stand there.
	wide := repeat(1, no)
	for range 60 {
		wide = repeat(2, push, api.Instr{Op: api.InstrIf, Body: wide, Else: wide})
	}
	if compiler.Valid(code(wide...)) {
		t.Error("wide")
	}
}

func TestCost(t *testing.T) {
	for _, c := range []struct {
		s     string
		loops int
		want  []int // of all procedures
	}{
		{"proc f 0 0 -1; end", 3, []int{0}}, {"proc f 0 1 -1; push 1; store 0; end", 3, []int{2}}, {"proc f 0 1 -1; push 1; if; push 1; store 0; else; return; end; end", 3, []int{4}}, {"proc f 0 1 -1; push 1; if; else; return; end; return; end", 3, []int{4}},
		{"proc f 0 1 -1; loop; push 1; not; do; push 1; store 0; return; end; end", 0, []int{3}}, {"proc f 0 1 -1; loop; push 1; not; do; push 1; store 0; return; end; end", 1, []int{8}}, {"proc f 0 1 -1; loop; push 1; not; do; push 1; store 0; return; end; end", 8, []int{43}},
		{"proc f 0 1 -1; loop; push 1; do; loop; push 1; not; do; return; end; end; end", 2, []int{1 + 3 + 2*(1+6+2)}},
		{"proc g 0 1 1; push 5; return; end; proc h 1 1 1; load 0; call 0; add; return; end; proc f 0 1 -1; call 0; call 1; store 0; end", 2, []int{2, 6, 11}},
	} {
		code := parsed(t, c.s)
		for i, want := range c.want {
			if n, e := compiler.Cost(code, i, c.loops); n != want || e != api.OK {
				t.Error(c.s, i, n, e)
			}
		}
		for _, x := range []struct {
			procedure, loops int
			e                api.Errno
		}{{-1, 3, api.ErrNotFound}, {len(c.want), 3, api.ErrNotFound}, {len(c.want), -1, api.ErrNotFound}, {math.MinInt, 9, api.ErrNotFound}, {0, -1, api.ErrRange}, {0, 9, api.ErrRange}, {0, api.MaxLoops, api.OK}} {
			if n, e := compiler.Cost(code, x.procedure, x.loops); e != x.e || e != api.OK && n != 0 {
				t.Error(c.s, x, n, e)
			}
		}
	}
	wrong := api.Code{Procedures: []api.CodeProcedure{{Name: "f", Result: -1}, {Name: "f", Result: -1}}}
	for _, procedure := range []int{0, 7} {
		if n, e := compiler.Cost(wrong, procedure, 9); n != 0 || e != api.ErrArg {
			t.Error(n, e)
		}
	}
}

func TestCostIsCapped(t *testing.T) {
	for levels, want := range map[int]int{1: 1 + 9 + 8*3, 2: 1 + 9 + 8*34, 8: 70740146, 9: 1<<26 + 1, 40: 1<<26 + 1} {
		l := list(t, "return; return; return")
		for range levels {
			l = []api.Instr{{Op: api.InstrLoop, Body: l, Else: list(t, "push 1; assert")[:1]}}
		}
		c := api.Code{Procedures: []api.CodeProcedure{{Name: "f", Slots: 1, Result: -1, Body: l}, {Name: "g", Slots: 1, Result: -1, Body: []api.Instr{{Op: api.InstrCall}, {Op: api.InstrCall}}}}}
		want = min(want, 1<<26+1)
		if n, e := compiler.Cost(c, 0, 8); n != want || e != api.OK {
			t.Error(levels, n, e)
		}
		if n, e := compiler.Cost(c, 1, 8); n != min(2*want+2, 1<<26+1) || e != api.OK {
			t.Error(levels, n, e)
		}
		if n, e := compiler.Cost(c, 0, 0); n != 2 || e != api.OK {
			t.Error(levels, n, e)
		}
	}
}

func TestFind(t *testing.T) {
	c := compiled(t, "proc f() { g(); } proc g() { }")
	for name, want := range map[string]int{"g": 0, "f": 1, "": -1, "h": -1, "F": -1} {
		if i, ok := compiler.Find(c, name); ok != (want >= 0) || i != max(want, 0) {
			t.Error(name, i, ok)
		}
	}
	if i, ok := compiler.Find(api.Code{}, ""); i != 0 || ok {
		t.Error(i, ok)
	}
	// Any code has names.
	wrong := api.Code{Procedures: []api.CodeProcedure{{Name: "x"}, {Name: "!"}, {Name: "!"}}}
	if i, ok := compiler.Find(wrong, "!"); i != 1 || !ok {
		t.Error(i, ok)
	}
}

// P14.3

func TestFormat(t *testing.T) {
	for s, want := range map[string]string{
		"proc f(x: int): bool { return x > 0 and x < 3; }":        "proc f 1 1 1\n  load 0\n  push 0\n  greater\n  if\n    load 0\n    push 3\n    less\n  else\n    push 0\n  end\n  return\nend\n",
		"proc f(var a: int[2]) { while true { a[0] = a[1]; } }":   "proc f 2 2 -1 0 1\n  loop\n    push 1\n  do\n    push 0\n    push 1\n    loadat 0 2\n    storeat 0 2\n  end\nend\n",
		"proc g() { } proc f() { if true { if false { g(); } } }": "proc g 0 0 -1\nend\nproc f 0 0 -1\n  push 1\n  if\n    push 0\n    if\n      call 0\n    else\n    end\n  else\n  end\nend\n",
		"": "",
	} {
		c := compiled(t, s)
		if got := compiler.Format(c); got != want {
			t.Errorf("%q", got)
		}
		if d, e := compiler.Parse(want); !reflect.DeepEqual(d, c) || e != api.OK {
			t.Error(d, e)
		}
	}
	for _, c := range []api.Code{{Procedures: []api.CodeProcedure{{}}}, {Procedures: []api.CodeProcedure{{Name: "f", Result: -1, Body: []api.Instr{{}}}}}, {Procedures: []api.CodeProcedure{{Name: "f\n", Result: -1}}}} {
		if s := compiler.Format(c); s != "" || compiler.Valid(c) {
			t.Errorf("%q", s)
		}
	}
}

func TestParse(t *testing.T) {
	c := parsed(t, "proc a 0 0 1; push 0; return; end; proc f 1 2 -1 0 1; load 0; push 0; greater; if; call 0; push 3; less; assert; else; loop; push 0; do; push 1; push 2; storeat 0 2; end; end; return; end")
	want := []api.Instr{{Op: api.InstrLoad}, {}, {Op: api.InstrGreater}, {Op: api.InstrIf, Body: []api.Instr{{Op: api.InstrCall}, {A: 3}, {Op: api.InstrLess}, {Op: api.InstrAssert}}, Else: []api.Instr{{Op: api.InstrLoop, Body: []api.Instr{{A: 1}, {A: 2}, {Op: api.InstrStoreAt, B: 2}}, Else: []api.Instr{{}}}}}, {Op: api.InstrReturn}}
	if x := c.Procedures[0]; len(c.Procedures) != 2 || x.Name != "a" || x.Slots != 0 || x.Result != 1 || len(x.Outputs) > 0 || len(x.Body) != 2 {
		t.Error(x)
	}
	if x := c.Procedures[1]; x.Name != "f" || x.Parameters != 1 || x.Slots != 2 || x.Result != -1 || !slices.Equal(x.Outputs, []int{0, 1}) || !reflect.DeepEqual(x.Body, want) {
		t.Error(x)
	}
	for _, s := range []string{"", "\n", "   ", " \n \n"} {
		if c, e := compiler.Parse(s); e != api.OK || len(c.Procedures) > 0 {
			t.Error(c, e)
		}
	}
}

func TestParseAnyBlanks(t *testing.T) {
	s := compiler.Format(compiled(t, "proc f(x: int, a: int[2]): int { while x > 0 and a[x] < 0 or x == 12 { x = g(a) + -1; } return 0; } proc g(a: int[2]): int { for i = 1 to len(a) { a[i] = i; } return a[0]; }"))
	want, _ := compiler.Parse(s)
	for i, x := range []string{
		s[:len(s)-1], s + "\n", s + "  ", strings.ReplaceAll(s, " ", "  "), strings.ReplaceAll(s, "  ", ""), strings.ReplaceAll(s, "\n", "  \n"), strings.ReplaceAll(s, "\n", "\n\n   \n"), "  \n\n" + s, strings.ReplaceAll(s, "push 1", "push  0001"), strings.ReplaceAll(s, "proc g 2", "   proc   g   02  "),
	} {
		if c, e := compiler.Parse(x); !reflect.DeepEqual(c, want) || e != api.OK {
			t.Error(i, c, e)
		}
	}
}

func TestParseErrors(t *testing.T) {
	for s, want := range map[string]api.Errno{
		"proc f 0 0 -1; end": api.OK, "proc f 0 0 -1": api.ErrSyntax, "proc f 0 0; end": api.ErrSyntax, "proc f; end": api.ErrSyntax, "proc; end": api.ErrSyntax, "end": api.ErrSyntax, "f 0 0 -1; end": api.ErrSyntax, "Proc f 0 0 -1; end": api.ErrSyntax, "proc f 0 0 -1; end; end": api.ErrSyntax, "proc f 0 0 -1; end; x": api.ErrSyntax, "proc f 0 0 -1; proc g 0 0 -1; end; end": api.ErrSyntax, "push 1": api.ErrSyntax,
		"proc f 0 0 x; end": api.ErrSyntax, "proc f 0 0 +1; end": api.ErrSyntax, "proc f 0 0 --1; end": api.ErrSyntax, "proc f 0 0 -; end": api.ErrSyntax, "proc f 0 0 - 1; end": api.ErrSyntax, "proc f 0x0 0 -1; end": api.ErrSyntax, "proc f 0 0 -1 0 x; end": api.ErrSyntax, "proc f 0 0 -0000000001; end": api.ErrSyntax, "proc f 0 0 -000000001; end": api.OK, "proc f 0 0 1000000000; end": api.ErrSyntax, "proc f 0 0 999999999; end": api.ErrArg,
		"proc f 0 0 -1; push; end": api.ErrSyntax, "proc f 0 0 -1; push 1 2; end": api.ErrSyntax, "proc f 0 0 -1; add 1; end": api.ErrSyntax, "proc f 0 0 -1; loadat 0; end": api.ErrSyntax, "proc f 0 0 -1; loadat 0 1 2; end": api.ErrSyntax, "proc f 0 0 -1; storeat 1; end": api.ErrSyntax, "proc f 0 0 -1; call; end": api.ErrSyntax, "proc f 0 0 -1; return 1; end": api.ErrSyntax, "proc f 0 0 -1; Push 1; end": api.ErrSyntax, "proc f 0 0 -1; pop; end": api.ErrSyntax, "proc f 0 0 -1; push a; end": api.ErrSyntax, "proc f 0 0 -1; push 1.0; end": api.ErrSyntax, "proc f 0 0 -1; push 1\t; end": api.ErrSyntax, "proc f 0 0 -1\r; end": api.ErrSyntax, "proc f 0 0 -1; push\u00a01; end": api.ErrSyntax, "proc f 0 0 -1; \xff; end": api.ErrSyntax, "proc f 0 0 -1; # x; end": api.ErrSyntax,
		"proc f 0 0 -1; push 1; if; end; end": api.ErrSyntax, "proc f 0 0 -1; push 1; if; else; end": api.ErrSyntax, "proc f 0 0 -1; push 1; if; else; else; end; end": api.ErrSyntax, "proc f 0 0 -1; push 1; if; do; end; end": api.ErrSyntax, "proc f 0 0 -1; push 1; if 1; else; end; end": api.ErrSyntax, "proc f 0 0 -1; push 1; if; else 1; end; end": api.ErrSyntax, "proc f 0 0 -1; push 1; if; else; end 1; end": api.ErrSyntax, "proc f 0 0 -1; else; end": api.ErrSyntax, "proc f 0 0 -1; do; end": api.ErrSyntax, "proc f 0 0 -1; end 0": api.ErrSyntax,
		"proc f 0 0 -1; loop; push 1; end; end": api.ErrSyntax, "proc f 0 0 -1; loop; push 1; else; end; end": api.ErrSyntax, "proc f 0 0 -1; loop; push 1; do; do; end; end": api.ErrSyntax, "proc f 0 0 -1; loop; push 1; do; end": api.ErrSyntax, "proc f 0 0 -1; loop 1; push 1; do; end; end": api.ErrSyntax, "proc f 0 0 -1; loop; push 1; do 1; end; end": api.ErrSyntax, "proc f 0 0 -1; loop; push 1; do; end; end": api.OK,
		"proc f 0 0 -1; push 1; end": api.ErrArg, "proc f 0 0 -1; push 1; end; proc": api.ErrSyntax, "proc F 0 0 -1; end": api.ErrArg, "proc if 0 0 -1; end": api.ErrArg, "proc f 0 0 -1; end; proc f 0 0 -1; end": api.ErrArg, "proc f 0 0 -1; end; proc g 0 0 -1; end": api.OK, "proc f 0 0 -1; call 0; end": api.ErrArg, "proc f -1 0 -1; end": api.ErrArg, "proc f 0 0 -1; load 0; assert; end": api.ErrArg,
	} {
		c, e := compiler.Parse(long(s))
		if e != want || e != api.OK && len(c.Procedures) > 0 {
			t.Errorf("%q: %v", s, e)
		}
	}
}

func TestLongTexts(t *testing.T) {
	front := "proc f 0 0 -1\n"
	for _, c := range []struct {
		s    string
		want api.Errno
	}{
		{front + strings.Repeat(" ", 1<<20-len(front)-3) + "end", api.OK}, {front + strings.Repeat("\n", 1<<20-len(front)-3) + "end", api.OK}, {front + strings.Repeat(" ", 1<<20-len(front)-2) + "end", api.ErrTooLarge}, {strings.Repeat("\n", 1<<20), api.OK}, {strings.Repeat("x", 1<<20), api.ErrSyntax}, {strings.Repeat("x", 1<<20+1), api.ErrTooLarge}, {strings.Repeat("x ", 1<<19), api.ErrSyntax},
		{front + strings.Repeat("return\n", 1<<15) + "end", api.OK}, {front + strings.Repeat("return\n", 1<<15+1) + "end", api.ErrArg},
		{front + strings.Repeat("if\n", 345000) + "end", api.ErrSyntax}, {front + strings.Repeat("if\n", 80000) + strings.Repeat("else\nend\n", 80000) + "end", api.ErrArg}, {front + strings.Repeat("push 1\nif\n", 255) + strings.Repeat("else\nend\n", 255) + "end", api.OK}, {front + strings.Repeat("push 1\nif\n", 257) + strings.Repeat("else\nend\n", 257) + "end", api.ErrArg},
		{front + strings.Repeat("loop\npush 1\ndo\n", 50000) + strings.Repeat("end\n", 50000) + "end", api.ErrArg},
	} {
		if d, e := compiler.Parse(c.s); e != c.want || e != api.OK && len(d.Procedures) > 0 {
			t.Error(len(c.s), c.s[:30], e)
		}
	}
}

func TestResultsAreNew(t *testing.T) {
	s := "proc f(var x: int) { if x > 0 { g(x); } } proc g(var x: int) { x = 1; }"
	p, q := checked(t, s), checked(t, s)
	one, _ := compiler.Compile(p)
	two, _ := compiler.Compile(p)
	l, _ := compiler.Places(p)
	kept := compiler.Format(two)
	compiler.Cost(two, 1, 3)
	one.Procedures[0].Outputs[0], one.Procedures[0].Body[0].A, one.Procedures[1].Body[3].Body[0].A = 7, 7, 7
	l[0][0], l[1][0] = 7, 7
	if compiler.Format(two) != kept || !reflect.DeepEqual(p, q) {
		t.Error(two, p)
	}
	if m, _ := compiler.Places(p); m[0][0] == 7 || m[1][0] == 7 {
		t.Error(m)
	}
}
