package constraints_test

import (
	"reflect"
	"slices"
	"strconv"
	"strings"
	"testing"

	"assessor/api"
	"assessor/constraints"
	"assessor/parser"
	"assessor/tree"
	"assessor/types"
)

var (
	integer = api.Type{Kind: api.TypeInt}
	truth   = api.Type{Kind: api.TypeBool}
	some    = api.Type{Kind: api.TypeSome}
	scalar  = api.Type{Kind: api.TypeScalar}
)

func array(length int) api.Type { return api.Type{Kind: api.TypeArray, Len: length} }

func record(name string) api.Type { return api.Type{Kind: api.TypeRecord, Record: name} }

func mark(a int, t api.Type) api.Constraint {
	return api.Constraint{Kind: api.StepMark, A: a, Mark: t}
}

func equal(a, b int) api.Constraint { return api.Constraint{Kind: api.StepEqual, A: a, B: b} }

// program returns the tree of a text.
func program(t *testing.T, s string) api.Node {
	t.Helper()
	n, l, e := parser.Parse(s)
	if len(l) > 0 || e != api.OK {
		t.Fatalf("%q: %v %v", s, l, e)
	}
	return n
}

// P9.1

func TestExclude(t *testing.T) {
	marks := []api.Type{integer, truth, scalar, some, array(1), array(2), array(api.MaxArray), record("r"), record("int"), record("Not A Name")}
	var compatible [][2]api.Type
	for _, m := range marks {
		compatible = append(compatible, [2]api.Type{m, m})
	}
	compatible = append(compatible, [2]api.Type{scalar, integer}, [2]api.Type{scalar, truth}, [2]api.Type{some, array(1)}, [2]api.Type{some, array(2)}, [2]api.Type{some, array(api.MaxArray)})
	for _, a := range marks {
		for _, b := range marks {
			want := !slices.Contains(compatible, [2]api.Type{a, b}) && !slices.Contains(compatible, [2]api.Type{b, a})
			if constraints.Exclude(a, b) != want {
				t.Error(a, b)
			}
		}
	}
}

// noMarks returns types that are no marks.
func noMarks() []api.Type {
	return []api.Type{
		{}, {Kind: -1}, {Kind: 7}, {Record: "r"}, {Len: 1}, record(""), {Kind: api.TypeRecord, Len: 1, Record: "r"}, {Kind: api.TypeRecord, Len: -1, Record: "r"},
		array(0), array(-1), array(api.MaxArray + 1), {Kind: api.TypeArray, Len: 2, Record: "r"},
		{Kind: api.TypeInt, Len: 1}, {Kind: api.TypeInt, Record: "r"}, {Kind: api.TypeBool, Len: -1}, {Kind: api.TypeBool, Record: "r"},
		{Kind: api.TypeSome, Len: 1}, {Kind: api.TypeSome, Record: "r"}, {Kind: api.TypeScalar, Len: 1}, {Kind: api.TypeScalar, Record: "r"},
	}
}

func TestWhatIsNoMarkExcludesNothing(t *testing.T) {
	for _, a := range noMarks() {
		for _, b := range append(noMarks(), integer, truth, scalar, some, array(2), record("r")) {
			if constraints.Exclude(a, b) || constraints.Exclude(b, a) {
				t.Error(a, b)
			}
		}
	}
}

// P9.2

// write returns the constraints of a text: a vertex and its mark, or two vertices; the offset, and the bytes.
func write(t *testing.T, s string, l []api.Constraint) string {
	t.Helper()
	var written []string
	for _, c := range l {
		text := strconv.Itoa(c.A) + ":" + types.Format(c.Mark)
		if c.Kind == api.StepEqual {
			text = strconv.Itoa(c.A) + "=" + strconv.Itoa(c.B)
		}
		if c.Kind == api.StepMark && c.B != 0 || c.Kind == api.StepEqual && c.Mark != (api.Type{}) {
			t.Error(s, c)
		}
		written = append(written, text+"@"+strconv.Itoa(c.At)+" "+s[c.At:c.End])
	}
	return strings.Join(written, " | ")
}

func TestCollect(t *testing.T) {
	for _, x := range []struct{ s, want string }{
		{"", ""},
		{"proc f(){}", ""},
		// Types that are written: int[9], int[0] and q do not exist.
		{"record r{a:int,b:bool}", "2:int@11 int | 4:bool@17 bool"},
		{"proc f(a,var b:bool,c:int[8],d:int[9],e:int[0],g:r,h:q):int[2]{}record r{x:int}", "1:int[2]@56 int[2] | 5:bool@15 bool | 7:int[8]@22 int[8] | 13:r@49 r | 20:int@75 int"},
		{"proc f(){var x=1;var y:bool=x;}", "5=7@9 var x=1; | 7:int@15 1 | 8:bool@23 bool | 8=10@17 var y:bool=x; | 10=5@28 x"},
		// Other statements.
		{"proc f(a,b){a=b;a[b]=1;}", "10=11@12 a=b; | 10=3@12 a | 11=5@14 b | 13=16@16 a[b]=1; | 14:array@16 a | 15:int@18 b | 13:int@16 a[b] | 14=3@16 a | 15=5@18 b | 16:int@21 1"},
		{"proc f(a){if a{}else if a{}while a{}assert a;}", "8:bool@13 a | 8=3@13 a | 11:bool@24 a | 11=3@24 a | 15:bool@33 a | 15=3@33 a | 18:bool@43 a | 18=3@43 a"},
		{"proc f(a,b){for i=a to b{i=1;}}", "9:int@12 for i=a to b{i=1;} | 10:int@18 a | 11:int@23 b | 10=3@18 a | 11=5@23 b | 14=15@25 i=1; | 14=9@25 i | 15:int@27 1"},
		{"proc f(a):int{return a;}proc g(a){return a;}proc h():int{return;}proc i():q{return 1;}", "1:int@10 int | 8=1@14 return a; | 8=3@21 a | 16=11@41 a | 17:int@53 int | 28=23@76 return 1; | 28:int@83 1"},
		// Calls, also with too few or too many arguments.
		{"proc f(a,var b){f(a,b);f(a);f(a,b,a);}", "10=3@18 a | 11=5@20 b | 10=3@18 a | 11=5@20 b | 13=3@25 a | 13=3@25 a | 15=3@30 a | 16=5@32 b | 15=3@30 a | 16=5@32 b | 17=3@34 a"},
		{"proc f():int{return f();}proc g(a){g(g(a));f();}", "1:int@9 int | 6=1@13 return f(); | 6=1@20 f() | 14=9@37 g(a) | 15=9@39 a | 15=9@39 a"},
		{"record r{a:int,b:bool}proc f(x){x=r(1,x);x=r();x=r(1,2,3);r(1);}", "2:int@11 int | 4:bool@17 bool | 13=14@32 x=r(1,x); | 13=8@32 x | 15=2@36 1 | 16=4@38 x | 14:r@34 r(1,x) | 15:int@36 1 | 16=8@38 x | 18=19@41 x=r(); | 18=8@41 x | 19:r@43 r() | 21=22@47 x=r(1,2,3); | 21=8@47 x | 23=2@51 1 | 24=4@53 2 | 22:r@49 r(1,2,3) | 23:int@51 1 | 24:int@53 2 | 25:int@55 3 | 27:int@60 1"},
		// Names without a declaration.
		{"proc f(x){y=x;z[x]=1;g(1);x=g(1);}", "8=9@10 y=x; | 9=3@12 x | 11=14@14 z[x]=1; | 12:array@14 z | 13:int@16 x | 11:int@14 z[x] | 13=3@16 x | 14:int@19 1 | 16:int@23 1 | 18=19@26 x=g(1); | 18=3@26 x | 20:int@30 1"},
		{"record r{a:int}proc f(x){x.a=y.a;x.b=1;}", "2:int@11 int | 11=13@25 x.a=y.a; | 12:r@25 x.a | 11=2@25 x.a | 12=6@25 x | 14:r@29 y.a | 13=2@29 y.a | 16=18@33 x.b=1; | 17=6@33 x | 18:int@37 1"},
		// Names that are declared already.
		{"record r{a:int,a:bool}record r{c:int}proc f(p:r,p:int){p.a=1;p.c=r(1);}", "2:int@11 int | 4:bool@17 bool | 7:int@33 int | 11:r@46 r | 13:int@50 int | 18=20@55 p.a=1; | 19:r@55 p.a | 18=2@55 p.a | 19=11@55 p | 20:int@59 1 | 22=24@61 p.c=r(1); | 23:r@61 p.c | 22=7@61 p.c | 23=11@61 p | 25=2@67 1 | 24:r@65 r(1) | 25:int@67 1"},
		{"proc r(x:bool){}record r{a:int}proc f(p){p=r(1);p.a=2;}", "3:bool@9 bool | 8:int@27 int | 17=18@41 p=r(1); | 17=12@41 p | 19=3@45 1 | 19:int@45 1 | 21=23@48 p.a=2; | 22:r@48 p.a | 21=8@48 p.a | 22=12@48 p | 23:int@52 2"},
		{"proc f(x){var x:bool=1;}", "7:bool@16 bool | 7=9@10 var x:bool=1; | 9:int@21 1"},
		// Other expressions.
		{"proc f(x){x=len(x);x=len(y);}", "8=9@10 x=len(x); | 8=3@10 x | 10:array@16 x | 9:int@12 len(x) | 10=3@16 x | 12=13@19 x=len(y); | 12=3@19 x | 14:array@25 y | 13:int@21 len(y)"},
		{"proc f(x){x=true;x=[1,x];assert [[1]];}", "8=9@10 x=true; | 8=3@10 x | 9:bool@12 true | 11=12@17 x=[1,x]; | 11=3@17 x | 13:int@20 1 | 14:int@22 x | 12:int[2]@19 [1,x] | 13:int@20 1 | 14=3@22 x | 16:bool@32 [[1]] | 17:int@33 [1] | 16:int[1]@32 [[1]] | 18:int@34 1 | 17:int[1]@33 [1] | 18:int@34 1"},
		{"proc f(x){x=-x;x=not x;}", "8=9@10 x=-x; | 8=3@10 x | 10:int@13 x | 9:int@12 -x | 10=3@13 x | 12=13@15 x=not x; | 12=3@15 x | 14:bool@21 x | 13:bool@17 not x | 14=3@21 x"},
	} {
		n := program(t, x.s)
		before, _ := tree.Get(n)
		l, e := constraints.Collect(n)
		if got := write(t, x.s, l); got != x.want || e != api.OK {
			t.Errorf("%q: %v\n%s\n%s", x.s, e, got, x.want)
		}
		if !reflect.DeepEqual(n, before) {
			t.Error(x.s)
		}
	}
}

func TestCollectOperators(t *testing.T) {
	for operator, want := range map[string]string{
		"and": "7:bool left | 8:bool right | 6:bool whole", "or": "7:bool left | 8:bool right | 6:bool whole",
		"==": "7=8 whole | 7:int or bool left | 6:bool whole", "!=": "7=8 whole | 7:int or bool left | 6:bool whole",
		"<": "7:int left | 8:int right | 6:bool whole", "<=": "7:int left | 8:int right | 6:bool whole", ">": "7:int left | 8:int right | 6:bool whole", ">=": "7:int left | 8:int right | 6:bool whole",
		"+": "7:int left | 8:int right | 6:int whole", "-": "7:int left | 8:int right | 6:int whole", "*": "7:int left | 8:int right | 6:int whole", "/": "7:int left | 8:int right | 6:int whole", "%": "7:int left | 8:int right | 6:int whole",
	} {
		// The return is in no procedure with a result, and the names have no declarations.
		whole := "v " + operator + " (w)"
		s := "proc f(){return " + whole + ";}"
		l, e := constraints.Collect(program(t, s))
		place := func(part string) string { return "@" + strconv.Itoa(strings.Index(s, part)) + " " + part }
		want = strings.NewReplacer(" left", place("v"), " right", place("w"), " whole", place(whole)).Replace(want)
		if got := write(t, s, l); got != want || e != api.OK {
			t.Errorf("%q: %v\n%s\n%s", s, e, got, want)
		}
	}
}

func TestCollectElements(t *testing.T) {
	for count := 1; count < 12; count++ {
		s := "proc f(){return [" + strings.Repeat("x,", count-1) + "x];}"
		l, e := constraints.Collect(program(t, s))
		var want []api.Constraint
		for i := range count {
			want = append(want, api.Constraint{Kind: api.StepMark, A: 7 + i, Mark: integer, At: 17 + 2*i, End: 18 + 2*i})
		}
		if count <= api.MaxArray {
			want = append(want, api.Constraint{Kind: api.StepMark, A: 6, Mark: array(count), At: 16, End: len(s) - 2})
		}
		if !slices.Equal(l, want) || e != api.OK {
			t.Error(count, l, want, e)
		}
	}
}

func TestCollectOnlyPrograms(t *testing.T) {
	n := program(t, "proc f(x){x=1;}")
	broken, _, _ := parser.Parse("proc f( {}")
	statement, _, _ := parser.Statement("x = 1;")
	none, _ := tree.Get(n)
	none.Kids[0].Kids[2].Kids[0].Kids[1] = api.Node{}
	for i, m := range []api.Node{{}, broken, statement, n.Kids[0], none, {Kind: -1}, {Kind: api.NodeProgram, Text: "x"}} {
		if l, e := constraints.Collect(m); len(l) > 0 || e != api.ErrArg {
			t.Error(i, l, e)
		}
	}
	// The places of nodes do not matter for anything but the places.
	l, e := constraints.Collect(tree.Bare(n))
	if want := []api.Constraint{equal(8, 9), equal(8, 3), mark(9, integer)}; !slices.Equal(l, want) || e != api.OK {
		t.Error(l, e)
	}
}

// P9.3

func TestSolve(t *testing.T) {
	none := api.Type{}
	example := []api.Constraint{mark(0, integer), equal(0, 1), equal(1, 2), mark(2, truth), equal(0, 2)}
	for i, x := range []struct {
		vertices int
		l        []api.Constraint
		types    []api.Type
		chains   [][]int
	}{
		{0, nil, nil, nil},
		{2, nil, []api.Type{none, none}, nil},
		{3, example, []api.Type{none, none, none}, [][]int{{0, 4, 3}}},
		{3, slices.Concat(example[:3], example[4:]), []api.Type{integer, integer, integer}, nil},
		// The marks of several types do not give a type, but agree with theirs.
		{1, []api.Constraint{mark(0, some)}, []api.Type{none}, nil},
		{1, []api.Constraint{mark(0, scalar)}, []api.Type{none}, nil},
		{2, []api.Constraint{mark(0, some), equal(0, 1), mark(1, array(3)), mark(0, some)}, []api.Type{array(3), array(3)}, nil},
		{2, []api.Constraint{mark(1, truth), mark(0, scalar), equal(0, 1), mark(0, truth)}, []api.Type{truth, truth}, nil},
		{1, []api.Constraint{mark(0, some), mark(0, scalar)}, []api.Type{none}, [][]int{{0, 1}}},
		{1, []api.Constraint{mark(0, record("Any")), mark(0, record("Any"))}, []api.Type{record("Any")}, nil},
		{1, []api.Constraint{mark(0, record("a")), mark(0, record("b"))}, []api.Type{none}, [][]int{{0, 1}}},
		{1, []api.Constraint{mark(0, scalar), mark(0, integer), mark(0, truth)}, []api.Type{none}, [][]int{{1, 2}}},
		// Classes, in the order of their least vertices.
		{6, []api.Constraint{mark(5, integer), equal(5, 0), mark(4, truth), equal(4, 1), mark(1, integer), equal(3, 3), mark(0, truth), mark(2, array(1))}, []api.Type{none, none, array(1), none, none, none}, [][]int{{0, 1, 6}, {2, 3, 4}}},
		// The first mark of a chain is the earlier one, wherever its vertex is.
		{3, []api.Constraint{mark(2, integer), equal(2, 1), equal(1, 0), mark(0, truth)}, []api.Type{none, none, none}, [][]int{{0, 1, 2, 3}}},
		// Shorter chains come first, also if their indices are greater.
		{4, []api.Constraint{mark(0, integer), equal(0, 1), mark(1, truth), mark(3, integer), mark(3, truth), equal(1, 3)}, []api.Type{none, none, none, none}, [][]int{{3, 4}}},
		// Of chains with the same length the first one in the order of the first mark, the equalities, the last mark.
		{4, []api.Constraint{mark(3, truth), mark(0, integer), equal(1, 3), equal(0, 2), equal(3, 2), equal(0, 1)}, []api.Type{none, none, none, none}, [][]int{{0, 2, 5, 1}}},
		{2, []api.Constraint{equal(0, 1), equal(1, 0), mark(1, truth), mark(0, integer), mark(1, array(1))}, []api.Type{none, none}, [][]int{{2, 4}}},
		{3, []api.Constraint{equal(1, 0), equal(0, 2), mark(0, integer), mark(2, truth), mark(1, array(1))}, []api.Type{none, none, none}, [][]int{{2, 0, 4}}},
		{2, []api.Constraint{equal(0, 0), mark(0, integer), equal(0, 1), equal(1, 0), mark(1, integer), mark(1, truth)}, []api.Type{none, none}, [][]int{{4, 5}}},
		// B of a mark and the Mark of an equality do not matter.
		{2, []api.Constraint{{Kind: api.StepMark, A: 1, B: -7, Mark: integer}, {Kind: api.StepEqual, A: 0, B: 1, Mark: array(99), At: -1, End: -2}}, []api.Type{integer, integer}, nil},
	} {
		before := slices.Clone(x.l)
		types, chains, e := constraints.Solve(x.vertices, x.l)
		if !slices.Equal(types, x.types) || !slices.EqualFunc(chains, x.chains, slices.Equal) || e != api.OK || !slices.Equal(x.l, before) {
			t.Error(i, types, chains, e)
		}
	}
}

func TestSolveErrors(t *testing.T) {
	for i, x := range []struct {
		vertices int
		l        []api.Constraint
		e        api.Errno
	}{
		{-1, nil, api.ErrRange}, {api.MaxSource + 1, nil, api.ErrRange}, {-1 << 62, nil, api.ErrRange}, {1 << 62, nil, api.ErrRange},
		{-1, []api.Constraint{equal(7, 7)}, api.ErrRange}, {api.MaxSource + 1, []api.Constraint{mark(0, api.Type{})}, api.ErrRange},
		{0, []api.Constraint{mark(0, integer)}, api.ErrArg}, {0, []api.Constraint{equal(0, 0)}, api.ErrArg},
		{2, []api.Constraint{{Kind: 2, A: 1, B: 1, Mark: integer}}, api.ErrArg}, {2, []api.Constraint{{Kind: -1, A: 1, B: 1, Mark: integer}}, api.ErrArg},
		{2, []api.Constraint{mark(2, integer)}, api.ErrArg}, {2, []api.Constraint{mark(-1, integer)}, api.ErrArg},
		{2, []api.Constraint{equal(2, 0)}, api.ErrArg}, {2, []api.Constraint{equal(0, 2)}, api.ErrArg}, {2, []api.Constraint{equal(-1, 0)}, api.ErrArg}, {2, []api.Constraint{equal(0, -1)}, api.ErrArg},
		{2, []api.Constraint{equal(0, 1), mark(0, integer), mark(1, truth), mark(2, truth)}, api.ErrArg},
	} {
		types, chains, e := constraints.Solve(x.vertices, x.l)
		if len(types) > 0 || len(chains) > 0 || e != x.e {
			t.Error(i, types, chains, e)
		}
	}
	for _, m := range noMarks() {
		if types, chains, e := constraints.Solve(1, []api.Constraint{mark(0, m)}); len(types) > 0 || len(chains) > 0 || e != api.ErrArg {
			t.Error(m, types, chains, e)
		}
	}
}

func TestSolveTheGreatestGraph(t *testing.T) {
	// A line of vertices with int at all of them, and bool at the last one.
	var l []api.Constraint
	for v := range api.MaxSource {
		l = append(l, mark(v, integer))
	}
	for v := range api.MaxSource - 1 {
		l = append(l, equal(v+1, v))
	}
	last := api.MaxSource - 1
	solved, chains, e := constraints.Solve(api.MaxSource, append(l, mark(last, truth)))
	if len(solved) != api.MaxSource || solved[0] != (api.Type{}) || len(chains) != 1 || !slices.Equal(chains[0], []int{last, len(l)}) || e != api.OK {
		t.Error(len(solved), chains, e)
	}
	// Only both ends have a mark.
	l = append(l[api.MaxSource:], mark(last, some), mark(0, record("r")))
	solved, chains, e = constraints.Solve(api.MaxSource, l)
	if len(solved) != api.MaxSource || len(chains) != 1 || e != api.OK {
		t.Fatal(len(solved), len(chains), e)
	}
	want := []int{last}
	for v := last - 1; v >= 0; v-- {
		want = append(want, v)
	}
	if !slices.Equal(chains[0], append(want, last+1)) {
		t.Error(chains)
	}
	// No conflict, and many marks at one place.
	l = slices.Concat(l[:last], slices.Repeat([]api.Constraint{mark(7, truth), mark(0, scalar)}, 50000))
	solved, chains, e = constraints.Solve(api.MaxSource, l)
	if len(chains) > 0 || e != api.OK || slices.ContainsFunc(solved, func(x api.Type) bool { return x != truth }) {
		t.Error(len(chains), e)
	}
}

// P9.4

func TestExplain(t *testing.T) {
	l := []api.Constraint{
		{Kind: api.StepMark, A: 3, Mark: integer, At: 4, End: 6}, {Kind: api.StepEqual, A: 1, B: 2, At: 5, End: 9}, {Kind: api.StepMark, Mark: array(2), At: 1, End: 2},
		{Kind: api.StepMark, Mark: record("point")}, {Kind: api.StepMark, Mark: some}, {Kind: api.StepMark, Mark: scalar}, {Kind: api.StepMark, Mark: truth, At: -1, End: -5},
		{Kind: api.StepEqual, Mark: integer}, {Kind: 7, Mark: integer, At: 1}, {Kind: api.StepMark, Mark: array(-1)},
	}
	all := []api.Step{
		{Kind: api.StepMark, At: 4, End: 6, Text: "int"}, {Kind: api.StepEqual, At: 5, End: 9}, {Kind: api.StepMark, At: 1, End: 2, Text: "int[2]"},
		{Kind: api.StepMark, Text: "point"}, {Kind: api.StepMark, Text: "array"}, {Kind: api.StepMark, Text: "int or bool"}, {Kind: api.StepMark, At: -1, End: -5, Text: "bool"},
		{Kind: api.StepEqual}, {Kind: 7, At: 1}, {Kind: api.StepMark},
	}
	for i, want := range all {
		if steps := constraints.Explain(l, []int{i}); !slices.Equal(steps, []api.Step{want}) {
			t.Error(i, steps)
		}
	}
	if steps := constraints.Explain(l, []int{2, 1, 1, 0}); !slices.Equal(steps, []api.Step{all[2], all[1], all[1], all[0]}) {
		t.Error(steps)
	}
	for i, chain := range [][]int{nil, {}, {-1}, {10}, {0, 1, 10}, {-1, 0}, {0, 1 << 40, 1}} {
		if steps := constraints.Explain(l, chain); len(steps) > 0 {
			t.Error(i, steps)
		}
	}
	if steps := constraints.Explain(nil, []int{0}); len(steps) > 0 {
		t.Error(steps)
	}
}

func TestTheConflictOfTheExample(t *testing.T) {
	n := program(t, "proc f(x): bool { return x + 1; }")
	l, _ := constraints.Collect(n)
	solved, chains, _ := constraints.Solve(tree.Count(n), l)
	want := []api.Step{{Kind: api.StepMark, At: 11, End: 15, Text: "bool"}, {Kind: api.StepEqual, At: 18, End: 31}, {Kind: api.StepMark, At: 25, End: 30, Text: "int"}}
	if len(chains) != 1 || !slices.Equal(constraints.Explain(l, chains[0]), want) || solved[3] != integer || solved[1] != (api.Type{}) {
		t.Error(solved, chains)
	}
}
