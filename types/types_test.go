package types_test

import (
	"math/rand"
	"reflect"
	"slices"
	"testing"

	"assessor/api"
	"assessor/parser"
	"assessor/tree"
	"assessor/types"
)

func node(kind int, text string, kids ...api.Node) api.Node {
	return api.Node{Kind: kind, Text: text, Kids: kids}
}

// program returns the tree of a text.
func program(t *testing.T, s string) api.Node {
	t.Helper()
	n, l, e := parser.Parse(s)
	if len(l) > 0 || e != api.OK {
		t.Fatalf("%q: %v %v", s, l, e)
	}
	return n
}

var (
	integer = api.Type{Kind: api.TypeInt}
	truth   = api.Type{Kind: api.TypeBool}
)

func array(length int) api.Type { return api.Type{Kind: api.TypeArray, Len: length} }

func record(name string) api.Type { return api.Type{Kind: api.TypeRecord, Record: name} }

func field(name string, t api.Type) api.Field { return api.Field{Name: name, Type: t} }

func records(name string, l ...api.Field) []api.Record { return []api.Record{{Name: name, Fields: l}} }

// point returns the record of the examples.
func point() []api.Record { return records("point", field("px", integer), field("pb", truth)) }

// several returns records of which two have one name, with fields whose types are neither int nor bool.
func several() []api.Record {
	odd := records("odd", field("a", array(3)), field("b", truth), field("b", integer), field("c", record("point")), field("d", api.Type{Kind: api.TypeScalar}), field("e", api.Type{Kind: api.TypeBool, Len: 1}), field("f", api.Type{Kind: api.TypeBool, Record: "x"}), field("g", api.Type{}))
	return slices.Concat(point(), records("empty"), odd, records("point", field("a", truth), field("px", truth), field("z", truth)), records("", field("", truth)))
}

// P8.1

func TestValid(t *testing.T) {
	for _, x := range []struct {
		t    api.Type
		want bool
	}{
		{integer, true}, {truth, true}, {array(1), true}, {array(api.MaxArray), true}, {record("point"), true}, {record("empty"), true}, {record("odd"), true},
		{record(""), true}, {record("Point"), false}, {record("other"), false}, {record("int"), false},
		{array(0), false}, {array(-1), false}, {array(api.MaxArray + 1), false}, {array(1 << 40), false},
		{api.Type{}, false}, {api.Type{Kind: api.TypeSome}, false}, {api.Type{Kind: api.TypeScalar}, false}, {api.Type{Kind: -1}, false}, {api.Type{Kind: 99}, false},
		{api.Type{Kind: api.TypeInt, Len: 1}, false}, {api.Type{Kind: api.TypeInt, Record: "point"}, false}, {api.Type{Kind: api.TypeBool, Len: -1}, false}, {api.Type{Kind: api.TypeBool, Record: "x"}, false},
		{api.Type{Kind: api.TypeArray, Len: 2, Record: "point"}, false}, {api.Type{Kind: api.TypeRecord, Len: 1, Record: "point"}, false}, {api.Type{Kind: api.TypeRecord, Len: -1, Record: "point"}, false},
	} {
		if types.Valid(x.t, several()) != x.want {
			t.Error(x.t)
		}
		want := x.want && x.t.Kind != api.TypeRecord
		if types.Valid(x.t, nil) != want {
			t.Error(x.t)
		}
	}
}

func TestRecords(t *testing.T) {
	for _, x := range []struct {
		s    string
		want []api.Record
	}{
		{"", nil},
		{"proc f(){}", nil},
		{"record point{px:int,pb:bool}", point()},
		{"record b{x:int}proc f(){}record a{y:bool,z:bool,y:int}record b{w:bool}", slices.Concat(records("b", field("x", integer)), records("a", field("y", truth), field("z", truth), field("y", integer)), records("b", field("w", truth)))},
	} {
		if l := types.Records(program(t, x.s)); !reflect.DeepEqual(l, x.want) {
			t.Errorf("%q: %v", x.s, l)
		}
	}
	n := program(t, "record point{px:int,pb:bool}")
	for i, m := range []api.Node{{}, n.Kids[0], node(api.NodeProgram, "", n.Kids[0], node(api.NodeError, "")), node(api.NodeProgram, "", node(api.NodeRecord, "r")), node(api.NodeProgram, "", n.Kids[0], node(api.NodeRecord, "r", node(api.NodeField, "x", node(api.NodeType, "point"))))} {
		if l := types.Records(m); l != nil {
			t.Error(i, l)
		}
	}
}

func TestWritten(t *testing.T) {
	for _, x := range []struct {
		kind int
		text string
		want api.Type
	}{
		{api.NodeType, "int", integer}, {api.NodeType, "bool", truth}, {api.NodeType, "point", record("point")}, {api.NodeType, "empty", record("empty")},
		{api.NodeArrayType, "1", array(1)}, {api.NodeArrayType, "8", array(8)}, {api.NodeArrayType, "3", array(3)}, {api.NodeArrayType, "03", array(3)}, {api.NodeArrayType, "000000008", array(8)},
		{api.NodeType, "other", api.Type{}}, {api.NodeType, "array", api.Type{}}, {api.NodeType, "int[2]", api.Type{}}, {api.NodeType, "3", api.Type{}},
		{api.NodeArrayType, "0", api.Type{}}, {api.NodeArrayType, "9", api.Type{}}, {api.NodeArrayType, "", api.Type{}}, {api.NodeArrayType, "-1", api.Type{}}, {api.NodeArrayType, "+1", api.Type{}}, {api.NodeArrayType, "x", api.Type{}}, {api.NodeArrayType, "1 ", api.Type{}}, {api.NodeArrayType, "999999999", api.Type{}}, {api.NodeArrayType, "0000000003", api.Type{}}, {api.NodeArrayType, "int", api.Type{}}, {api.NodeArrayType, "point", api.Type{}}, {api.NodeArrayType, "18446744073709551617", api.Type{}},
		{api.NodeNone, "", api.Type{}}, {api.NodeNone, "int", api.Type{}}, {api.NodeError, "", api.Type{}}, {api.NodeName, "point", api.Type{}}, {api.NodeName, "int", api.Type{}}, {api.NodeNumber, "3", api.Type{}}, {api.NodeRecord, "point", api.Type{}}, {-1, "int", api.Type{}}, {99, "bool", api.Type{}},
	} {
		w, ok := types.Written(node(x.kind, x.text), several())
		if w != x.want || ok != (x.want != api.Type{}) {
			t.Errorf("%d %q: %v %v", x.kind, x.text, w, ok)
		}
	}
	for s, want := range map[string]api.Type{"int": integer, "bool": truth, "point": {}} {
		if w, ok := types.Written(node(api.NodeType, s), nil); w != want || ok != (want != api.Type{}) {
			t.Error(s, w, ok)
		}
	}
	// A record cannot be hidden behind int or bool.
	if w, ok := types.Written(node(api.NodeType, "int"), records("int", field("x", truth))); w != integer || !ok {
		t.Error(w, ok)
	}
	if _, ok := types.Written(node(api.NodeType, ""), point()); ok {
		t.Error("empty")
	}
}

func TestFormat(t *testing.T) {
	for _, x := range []struct {
		t    api.Type
		want string
	}{
		{integer, "int"}, {truth, "bool"}, {array(0), "int[0]"}, {array(3), "int[3]"}, {array(12), "int[12]"}, {array(1 << 40), "int[1099511627776]"}, {record("point"), "point"}, {record(""), ""}, {record("A b"), "A b"},
		{api.Type{Kind: api.TypeSome}, "array"}, {api.Type{Kind: api.TypeScalar}, "int or bool"},
		{api.Type{}, ""}, {array(-1), ""}, {array(-3), ""}, {api.Type{Kind: -1, Len: 1, Record: "r"}, ""}, {api.Type{Kind: 7, Len: 1, Record: "r"}, ""}, {api.Type{Len: 2, Record: "r"}, ""},
		// What the kind does not use does not matter.
		{api.Type{Kind: api.TypeInt, Len: 3, Record: "r"}, "int"}, {api.Type{Kind: api.TypeBool, Len: -3, Record: "r"}, "bool"}, {api.Type{Kind: api.TypeArray, Len: 2, Record: "r"}, "int[2]"}, {api.Type{Kind: api.TypeRecord, Len: -2, Record: "r"}, "r"}, {api.Type{Kind: api.TypeSome, Len: -2, Record: "r"}, "array"}, {api.Type{Kind: api.TypeScalar, Len: 1, Record: "r"}, "int or bool"},
	} {
		if s := types.Format(x.t); s != x.want {
			t.Error(x.t, s)
		}
	}
}

// P8.2

func TestScalars(t *testing.T) {
	for _, x := range []struct {
		l    []api.Type
		want string // i and b for int and bool
	}{
		{nil, ""},
		{[]api.Type{integer}, "i"}, {[]api.Type{truth}, "b"}, {[]api.Type{array(1)}, "i"}, {[]api.Type{array(8)}, "iiiiiiii"}, {[]api.Type{record("point")}, "ib"}, {[]api.Type{record("empty")}, ""}, {[]api.Type{record("odd")}, "ibiiiiii"}, {[]api.Type{record("")}, "b"},
		{[]api.Type{array(2), record("point")}, "iiib"}, {[]api.Type{record("point"), truth, record("empty"), array(3), truth}, "ibbiiib"},
		{[]api.Type{array(9)}, ""}, {[]api.Type{{}}, ""}, {[]api.Type{integer, {}}, ""}, {[]api.Type{record("other"), integer}, ""}, {[]api.Type{truth, array(0), truth}, ""}, {[]api.Type{{Kind: api.TypeScalar}}, ""}, {[]api.Type{{Kind: api.TypeInt, Len: 1}}, ""}, {[]api.Type{{Kind: api.TypeRecord, Len: 1, Record: "point"}}, ""}, {[]api.Type{{Kind: api.TypeArray, Len: 2, Record: "point"}}, ""},
	} {
		l := types.Scalars(several(), x.l...)
		got := ""
		for _, s := range l {
			got += map[api.Type]string{integer: "i", truth: "b"}[s]
		}
		if got != x.want || len(l) != len(got) {
			t.Error(x.l, l)
		}
		if len(x.l) == 1 {
			if size := types.Size(x.l[0], several()); size != len(x.want) {
				t.Error(x.l, size)
			}
		}
	}
	for _, x := range []api.Type{record("point"), {}} {
		if types.Size(x, nil) != 0 || types.Scalars(nil, x) != nil {
			t.Error(x)
		}
	}
}

// P8.3

func TestMember(t *testing.T) {
	for _, x := range []struct {
		name, record string
		index        int
		t            api.Type
	}{
		{"px", "point", 0, integer}, {"pb", "point", 1, truth}, {"a", "odd", 0, integer}, {"b", "odd", 1, truth}, {"c", "odd", 3, integer}, {"d", "odd", 4, integer}, {"e", "odd", 5, integer}, {"f", "odd", 6, integer}, {"g", "odd", 7, integer}, {"z", "point", 2, truth}, {"", "", 0, truth},
	} {
		if r, i, typed, ok := types.Member(several(), x.name); r != x.record || i != x.index || typed != x.t || !ok {
			t.Error(x.name, r, i, typed, ok)
		}
	}
	for _, name := range []string{"point", "x", "p", "PX"} {
		if r, i, typed, ok := types.Member(several(), name); r != "" || i != 0 || typed != (api.Type{}) || ok {
			t.Error(name, r, i, typed, ok)
		}
	}
	if r, i, typed, ok := types.Member(nil, "px"); r != "" || i != 0 || typed != (api.Type{}) || ok {
		t.Error(r, i, typed, ok)
	}
}

// P8.4

func TestLayout(t *testing.T) {
	x := api.Variable{Name: "x", Type: truth, Slot: 9, Node: 3, Var: true}
	a := api.Variable{Name: "a", Type: array(2), Slot: -1, Node: 7, Loop: true}
	p := api.Variable{Name: "p", Type: record("point"), Node: -1}
	e := api.Variable{Name: "e", Type: record("empty"), Node: -1}
	for i, y := range []struct {
		l     []api.Variable
		slots []int
		all   int
	}{
		{nil, nil, 0},
		{[]api.Variable{x, a, p}, []int{0, 1, 3}, 5},
		{[]api.Variable{p, a, x, p}, []int{0, 2, 4, 5}, 7},
		{[]api.Variable{e, x, e, a}, []int{0, 0, 1, 1}, 3},
		{[]api.Variable{a}, []int{0}, 2},
		{[]api.Variable{x, x}, []int{0, 1}, 2},
		{[]api.Variable{e}, []int{0}, 0},
		{[]api.Variable{{}}, nil, 0},
		{[]api.Variable{x, a, {Type: array(9)}}, nil, 0},
		{[]api.Variable{{Type: record("other")}, x}, nil, 0},
		{[]api.Variable{x, {Type: api.Type{Kind: api.TypeSome}}, x}, nil, 0},
	} {
		before := slices.Clone(y.l)
		l, all := types.Layout(several(), y.l...)
		if len(l) != len(y.slots) || all != y.all {
			t.Error(i, l, all)
			continue
		}
		for j, v := range l {
			want := y.l[j]
			want.Slot = y.slots[j]
			if v != want {
				t.Error(i, j, v)
			}
		}
		if !slices.Equal(before, y.l) {
			t.Error("changed", i)
		}
	}
	if l, all := types.Layout(nil, x, p); l != nil || all != 0 {
		t.Error(l, all)
	}
}

// P8.5

func TestSame(t *testing.T) {
	same := func(a api.Type, ra []api.Record, b api.Type, rb []api.Record) bool {
		forth, back := types.Same(a, ra, b, rb), types.Same(b, rb, a, ra)
		if forth != back {
			t.Error(a, ra, b, rb)
		}
		return forth
	}
	l := []api.Type{integer, truth, array(1), array(2), array(8), record("point"), record("empty"), record("odd"), record("")}
	for i, a := range l {
		for j, b := range l {
			if same(a, several(), b, several()) != (i == j) {
				t.Error(a, b)
			}
		}
		for _, b := range []api.Type{{}, array(0), array(9), record("other"), {Kind: api.TypeSome}, {Kind: api.TypeScalar}, {Kind: api.TypeInt, Len: 1}, {Kind: api.TypeRecord, Len: 2, Record: "point"}} {
			if same(a, several(), b, several()) || same(b, several(), b, several()) {
				t.Error(a, b)
			}
		}
		if same(a, several(), a, nil) != (a.Kind != api.TypeRecord) {
			t.Error(a)
		}
	}
	for i, x := range []struct {
		fields []api.Field
		want   bool
	}{
		{[]api.Field{field("px", integer), field("pb", truth)}, true},
		{[]api.Field{field("pb", truth), field("px", integer)}, false},
		{[]api.Field{field("px", integer)}, false},
		{[]api.Field{field("px", integer), field("pb", truth), field("pc", truth)}, false},
		{[]api.Field{field("px", integer), field("pc", truth)}, false},
		{[]api.Field{field("px", integer), field("pb", integer)}, false},
		{[]api.Field{field("px", truth), field("pb", truth)}, false},
		{[]api.Field{field("px", array(2)), field("pb", truth)}, true},
		{nil, false},
	} {
		other := slices.Concat(records("first", field("z", truth)), records("point", x.fields...), point())
		if same(record("point"), point(), record("point"), other) != x.want {
			t.Error(i)
		}
		// The name counts as well as the fields.
		if same(record("point"), point(), record("dot"), records("dot", x.fields...)) {
			t.Error(i)
		}
	}
}

// P8.6

// randomRecords returns records with names that are found by chance.
func randomRecords(r *rand.Rand) []api.Record {
	var l []api.Record
	for range r.Intn(4) {
		x := api.Record{Name: []string{"a", "b", "c", "point"}[r.Intn(4)]}
		for range 1 + r.Intn(3) {
			x.Fields = append(x.Fields, field([]string{"x", "y", "z"}[r.Intn(3)], []api.Type{integer, truth, integer, truth, array(2)}[r.Intn(5)]))
		}
		l = append(l, x)
	}
	return l
}

func randomType(r *rand.Rand) api.Type {
	switch r.Intn(8) {
	case 0:
		return integer
	case 1:
		return truth
	case 2, 3:
		return array(r.Intn(api.MaxArray + 2))
	case 4:
		return api.Type{Kind: r.Intn(9) - 1, Len: r.Intn(2), Record: []string{"", "a"}[r.Intn(2)]}
	}
	return record([]string{"a", "b", "c", "point"}[r.Intn(4)])
}

func TestWritingATypeGivesTheType(t *testing.T) {
	r := rand.New(rand.NewSource(1))
	written := 0
	for range 3000 {
		l, x := randomRecords(r), randomType(r)
		s := types.Format(x)
		n, wrong, e := parser.Statement("var v: " + s + " = 0;")
		if e != api.OK || len(wrong) > 0 {
			if types.Valid(x, l) {
				t.Fatal(x, s, wrong)
			}
			continue
		}
		got, ok := types.Written(n.Kids[0], l)
		if types.Valid(x, l) {
			written++
			if got != x || !ok || types.Format(got) != s {
				t.Fatal(x, s, got, ok)
			}
		}
	}
	if written < 1000 {
		t.Error(written)
	}
}

// scalars returns the scalars of a type by the definition; false if it does not exist.
func scalars(x api.Type, l []api.Record) ([]api.Type, bool) {
	switch {
	case x == integer || x == truth:
		return []api.Type{x}, true
	case x.Kind == api.TypeArray && x.Record == "" && x.Len >= 1 && x.Len <= 8:
		var s []api.Type
		for range x.Len {
			s = append(s, integer)
		}
		return s, true
	case x.Kind != api.TypeRecord || x.Len != 0:
		return nil, false
	}
	for _, r := range l {
		if r.Name == x.Record {
			var s []api.Type
			for _, f := range r.Fields {
				s = append(s, map[bool]api.Type{true: truth, false: integer}[f.Type == truth])
			}
			return s, true
		}
	}
	return nil, false
}

func TestSlotsDoNotOverlap(t *testing.T) {
	r := rand.New(rand.NewSource(2))
	placed := 0
	for range 5000 {
		l := randomRecords(r)
		var variables []api.Variable
		var of, all []api.Type
		exist := true
		for i := range r.Intn(4) {
			x := randomType(r)
			s, ok := scalars(x, l)
			if types.Valid(x, l) != ok || types.Size(x, l) != len(s) || !slices.Equal(types.Scalars(l, x), s) {
				t.Fatal(x, l, s, ok)
			}
			exist = exist && ok
			of, all = append(of, x), append(all, s...)
			variables = append(variables, api.Variable{Type: x, Node: i, Slot: r.Intn(9)})
		}
		got, slots := types.Layout(l, variables...)
		joined := types.Scalars(l, of...)
		if !exist {
			if got != nil || slots != 0 || joined != nil {
				t.Fatal(l, of, got, slots, joined)
			}
			continue
		}
		placed++
		if slots != len(all) || !slices.Equal(joined, all) || len(got) != len(variables) {
			t.Fatal(l, of, slots, joined, all)
		}
		// Each slot has one owner.
		owners := make([]int, slots)
		for i, v := range got {
			for j := range types.Size(v.Type, l) {
				owners[v.Slot+j]++
			}
			v.Slot = variables[i].Slot
			if v != variables[i] {
				t.Fatal(v)
			}
		}
		for slot, count := range owners {
			if count != 1 {
				t.Fatal(l, of, slot, count)
			}
		}
	}
	if placed < 1500 {
		t.Error(placed)
	}
}

func TestTypesThatAreTheSameHaveTheSameScalars(t *testing.T) {
	r := rand.New(rand.NewSource(3))
	same := map[int]int{}
	for range 20000 {
		a, b, ra, rb := randomType(r), randomType(r), randomRecords(r), randomRecords(r)
		if r.Intn(2) == 0 {
			b = a
		}
		if r.Intn(2) == 0 {
			rb = append(slices.Clone(ra), rb...)
		}
		if !types.Same(a, ra, b, rb) {
			continue
		}
		same[a.Kind]++
		if !types.Valid(a, ra) || !types.Valid(b, rb) || !slices.Equal(types.Scalars(ra, a), types.Scalars(rb, b)) {
			t.Fatal(a, ra, b, rb)
		}
	}
	for _, kind := range []int{api.TypeInt, api.TypeBool, api.TypeArray, api.TypeRecord} {
		if same[kind] < 50 {
			t.Error(same)
		}
	}
}

func TestArgumentsStayAndResultsAreNew(t *testing.T) {
	n := program(t, "record point{px:int,pb:bool}")
	before, _ := tree.Get(n)
	a, b := types.Records(n), types.Records(n)
	a[0].Fields[0].Name, a[0].Name = "changed", "changed"
	if !reflect.DeepEqual(b, point()) || !reflect.DeepEqual(n, before) {
		t.Error(b)
	}
	l := several()
	types.Scalars(l, record("point"))[0] = truth
	types.Layout(l, api.Variable{Type: record("point")})
	types.Member(l, "px")
	types.Same(record("point"), l, record("odd"), l)
	if !reflect.DeepEqual(l, several()) {
		t.Error(l)
	}
	one := []api.Type{truth}
	types.Scalars(l, one...)[0] = integer
	if one[0] != truth {
		t.Error(one)
	}
}

func FuzzWritten(f *testing.F) {
	f.Add(api.NodeType, "int", "point", "px", 3)
	f.Add(api.NodeArrayType, "07", "int", "", 1)
	f.Fuzz(func(t *testing.T, kind int, s, name, member string, of int) {
		l := records(name, field(member, api.Type{Kind: of}))
		x, ok := types.Written(node(kind, s), l)
		if ok != types.Valid(x, l) || ok && kind == api.NodeType && types.Format(x) != s {
			t.Fatal(x, ok)
		}
		if len(types.Scalars(l, x)) != types.Size(x, l) || types.Same(x, l, x, l) != ok {
			t.Fatal(x)
		}
	})
}
