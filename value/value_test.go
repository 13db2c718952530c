package value_test

import (
	"math"
	"slices"
	"strconv"
	"strings"
	"testing"

	"assessor/api"
	"assessor/value"
)

var (
	integer = api.Type{Kind: api.TypeInt}
	truth   = api.Type{Kind: api.TypeBool}
	records = []api.Record{
		{Name: "point", Fields: []api.Field{{Name: "px", Type: integer}, {Name: "pb", Type: truth}}},
		{Name: "one", Fields: []api.Field{{Name: "ob", Type: truth}}},
		{Name: "point", Fields: []api.Field{{Name: "z", Type: integer}}},
		{Name: "odd", Fields: []api.Field{{Name: "oa", Type: api.Type{Kind: api.TypeArray, Len: 3}}, {Name: "oz"}}},
		{Name: "empty"},
		{Name: "two words=", Fields: []api.Field{{Name: "t", Type: integer}}},
		{Name: "", Fields: []api.Field{{Name: "u", Type: integer}}},
	}
)

func array(length int) api.Type { return api.Type{Kind: api.TypeArray, Len: length} }

func record(name string) api.Type { return api.Type{Kind: api.TypeRecord, Record: name} }

// missing are types that do not exist.
func missing() []api.Type {
	return []api.Type{{}, array(0), array(9), array(-1), record("other"), {Kind: api.TypeInt, Len: 1}, {Kind: api.TypeBool, Record: "point"}, {Kind: api.TypeSome}, {Kind: api.TypeScalar}, {Kind: -1}, {Kind: 99}}
}

// strange are widths that no ints have.
func strange() []int { return []int{math.MinInt, -1, 0, 1, 9, 64, 65, math.MaxInt} }

// P11.1

func TestWrap(t *testing.T) {
	for _, c := range []struct{ width, n, want int }{
		{4, 9, -7}, {4, 7, 7}, {4, 8, -8}, {4, -8, -8}, {4, -9, 7}, {4, 16, 0}, {4, 0, 0}, {2, 1, 1}, {2, 2, -2}, {2, -2, -2}, {2, -3, 1},
		{8, 127, 127}, {8, 128, -128}, {8, -129, 127}, {8, 999999999, -1}, {8, math.MaxInt, -1}, {8, math.MinInt, 0}, {3, math.MinInt + 3, 3}, {5, math.MaxInt - 2, -3},
	} {
		if n := value.Wrap(c.width, c.n); n != c.want {
			t.Error(c, n)
		}
	}
	for width := api.MinWidth; width <= api.MaxWidth; width++ {
		for n := -600; n <= 600; n++ {
			w := value.Wrap(width, n)
			if w < value.Least(width) || w > value.Greatest(width) || (w-n)%(1<<width) != 0 {
				t.Error(width, n, w)
			}
		}
	}
}

func TestLeastAndGreatest(t *testing.T) {
	for width, want := range map[int][2]int{2: {-2, 1}, 3: {-4, 3}, 4: {-8, 7}, 5: {-16, 15}, 6: {-32, 31}, 7: {-64, 63}, 8: {-128, 127}} {
		if l, g := value.Least(width), value.Greatest(width); l != want[0] || g != want[1] {
			t.Error(width, l, g)
		}
	}
	for _, width := range strange() {
		if l, g, w := value.Least(width), value.Greatest(width), value.Wrap(width, 5); l != 0 || g != 0 || w != 0 {
			t.Error(width, l, g, w)
		}
	}
}

// P11.2

func TestBinary(t *testing.T) {
	for _, c := range []struct {
		width       int
		operator    string
		a, b, n, by int
	}{
		{4, "+", 7, 1, -8, 0}, {4, "+", 3, -5, -2, 0}, {4, "-", -8, 1, 7, 0}, {4, "*", 3, 3, -7, 0}, {4, "*", -8, -8, 0, 0},
		{4, "/", -8, -1, -8, 0}, {4, "/", -7, 2, -3, 0}, {4, "/", 7, -2, -3, 0}, {4, "/", 7, 2, 3, 0}, {4, "/", 1, 0, 0, api.FaultDivide}, {4, "/", 0, 0, 0, api.FaultDivide},
		{4, "%", -8, -1, 0, 0}, {4, "%", -7, 2, -1, 0}, {4, "%", 7, -2, 1, 0}, {4, "%", 7, 2, 1, 0}, {4, "%", 5, 0, 0, api.FaultDivide},
		{4, "==", 2, 2, 1, 0}, {4, "==", 2, 3, 0, 0}, {4, "!=", 2, 2, 0, 0}, {4, "!=", 1, 0, 1, 0},
		{4, "<", -8, 7, 1, 0}, {4, "<", 2, 2, 0, 0}, {4, "<=", 2, 2, 1, 0}, {4, "<=", 3, 2, 0, 0},
		{4, ">", 7, -8, 1, 0}, {4, ">", 2, 2, 0, 0}, {4, ">=", 2, 2, 1, 0}, {4, ">=", 1, 2, 0, 0},
		{4, "and", 1, 1, 1, 0}, {4, "and", 0, 1, 0, 0}, {4, "and", 1, 0, 0, 0}, {4, "and", 0, 0, 0, 0},
		{4, "or", 1, 1, 1, 0}, {4, "or", 0, 1, 1, 0}, {4, "or", 1, 0, 1, 0}, {4, "or", 0, 0, 0, 0},
		{2, "+", 1, 1, -2, 0}, {8, "*", 127, 127, 1, 0}, {8, "/", -128, -1, -128, 0}, {2, "/", -2, -1, -2, 0},
	} {
		if n, fault, e := value.Binary(c.width, c.operator, c.a, c.b); n != c.n || fault != c.by || e != api.OK {
			t.Error(c, n, fault, e)
		}
	}
}

func TestUnary(t *testing.T) {
	for _, c := range []struct {
		width    int
		operator string
		a, want  int
	}{{4, "-", 7, -7}, {4, "-", -8, -8}, {4, "-", 0, 0}, {4, "-", -3, 3}, {8, "-", -128, -128}, {2, "-", 1, -1}, {2, "not", 0, 1}, {8, "not", 1, 0}} {
		if n, e := value.Unary(c.width, c.operator, c.a); n != c.want || e != api.OK {
			t.Error(c, n, e)
		}
	}
}

func TestOperatorErrors(t *testing.T) {
	for _, c := range []struct {
		width    int
		operator string
		a, b     int
		want     api.Errno
	}{
		{4, "+", 8, 0, api.ErrRange}, {4, "+", 0, -9, api.ErrRange}, {4, "==", 8, 8, api.ErrRange}, {4, "<", -8, 8, api.ErrRange}, {4, "/", 8, 0, api.ErrRange},
		{4, "and", 2, 0, api.ErrRange}, {4, "and", 0, -1, api.ErrRange}, {4, "or", 1, 2, api.ErrRange}, {4, "or", -1, 1, api.ErrRange},
		{4, "not", 0, 0, api.ErrArg}, {4, "", 0, 0, api.ErrArg}, {4, "=", 99, 0, api.ErrArg}, {4, "+ ", 0, 0, api.ErrArg}, {4, "xor", 0, 0, api.ErrArg},
		{1, "+", 0, 0, api.ErrRange}, {9, "?", 0, 0, api.ErrRange},
	} {
		if n, fault, e := value.Binary(c.width, c.operator, c.a, c.b); n != 0 || fault != 0 || e != c.want {
			t.Error(c, n, fault, e)
		}
	}
	for _, c := range []struct {
		width    int
		operator string
		a        int
		want     api.Errno
	}{{4, "-", 8, api.ErrRange}, {4, "-", -9, api.ErrRange}, {4, "not", 2, api.ErrRange}, {4, "not", -1, api.ErrRange}, {4, "+", 0, api.ErrArg}, {4, "and", 9, api.ErrArg}, {4, "", 0, api.ErrArg}, {1, "-", 0, api.ErrRange}, {9, "?", 0, api.ErrRange}} {
		if n, e := value.Unary(c.width, c.operator, c.a); n != 0 || e != c.want {
			t.Error(c, n, e)
		}
	}
	for _, width := range strange() {
		_, _, e := value.Binary(width, "nothing", 0, 0)
		_, f := value.Unary(width, "nothing", 0)
		if e != api.ErrRange || f != api.ErrRange {
			t.Error(width, e, f)
		}
	}
}

// P11.3

func TestValid(t *testing.T) {
	for _, c := range []struct {
		t    api.Type
		l    []int
		want bool
	}{
		{integer, []int{7}, true}, {integer, []int{-8}, true}, {integer, []int{8}, false}, {integer, []int{-9}, false}, {integer, nil, false}, {integer, []int{1, 1}, false},
		{truth, []int{0}, true}, {truth, []int{1}, true}, {truth, []int{2}, false}, {truth, []int{-1}, false}, {truth, []int{}, false},
		{array(2), []int{7, -8}, true}, {array(2), []int{7}, false}, {array(2), []int{0, 0, 0}, false}, {array(2), []int{0, 8}, false}, {array(1), []int{3}, true},
		{record("point"), []int{7, 1}, true}, {record("point"), []int{1, 7}, false}, {record("point"), []int{1}, false}, {record("one"), []int{1}, true}, {record("one"), []int{3}, false},
		{record("odd"), []int{5, 5}, true}, {record("odd"), []int{5, 5, 5, 5}, false}, {record("empty"), nil, true}, {record("empty"), []int{0}, false},
	} {
		if got := value.Valid(4, c.t, records, c.l); got != c.want {
			t.Error(c, got)
		}
	}
	for _, of := range missing() {
		for _, l := range [][]int{nil, {0}, {0, 0}} {
			if value.Valid(4, of, records, l) {
				t.Error(of, l)
			}
		}
	}
	for _, width := range strange() {
		if value.Valid(width, integer, nil, []int{0}) {
			t.Error(width)
		}
	}
	if value.Valid(4, record("point"), nil, []int{1, 1}) || !value.Valid(2, integer, nil, []int{-2}) || value.Valid(2, integer, nil, []int{2}) || !value.Valid(8, array(1), nil, []int{127}) {
		t.Error("without records")
	}
}

// P11.4

func TestFormat(t *testing.T) {
	for _, c := range []struct {
		t    api.Type
		l    []int
		want string
	}{
		{integer, []int{5}, "5"}, {integer, []int{-5}, "-5"}, {integer, []int{math.MinInt}, strconv.Itoa(math.MinInt)},
		{truth, []int{0}, "false"}, {truth, []int{1}, "true"}, {truth, []int{-7}, "true"},
		{array(1), []int{3}, "[3]"}, {array(3), []int{3, -1, 1000}, "[3, -1, 1000]"},
		{record("point"), []int{1, 0}, "point(1, false)"}, {record("point"), []int{0, 1}, "point(0, true)"}, {record("one"), []int{2}, "one(true)"},
		{record("odd"), []int{1, 2}, "odd(1, 2)"}, {record("empty"), nil, "empty()"}, {record("two words="), []int{4}, "two words=(4)"}, {record(""), []int{4}, "(4)"},
		{integer, nil, ""}, {integer, []int{1, 2}, ""}, {truth, nil, ""}, {array(2), []int{1}, ""}, {array(2), []int{1, 2, 3}, ""}, {record("point"), []int{1}, ""}, {record("empty"), []int{1}, ""},
	} {
		if got := value.Format(c.t, records, c.l); got != c.want {
			t.Error(c, got)
		}
	}
	for _, of := range missing() {
		for n := range 10 {
			if got := value.Format(of, records, make([]int, n)); got != "" {
				t.Error(of, n, got)
			}
		}
	}
}

func TestParse(t *testing.T) {
	for _, c := range []struct {
		t    api.Type
		text string
		want []int
	}{
		{integer, "5", []int{5}}, {integer, "-8", []int{-8}}, {integer, "- 8", []int{-8}}, {integer, " # a\n-#b\n\t8\r#", []int{-8}}, {integer, "007", []int{7}}, {integer, "000000007", []int{7}}, {integer, "-0", []int{0}},
		{truth, "true", []int{1}}, {truth, " false#true", []int{0}},
		{array(1), "[3]", []int{3}}, {array(3), "[3,-1 , 7]", []int{3, -1, 7}}, {array(2), "[\n1, # one\n2]\n", []int{1, 2}},
		{record("point"), "point(1, false)", []int{1, 0}}, {record("point"), " point ( -1,true ) ", []int{-1, 1}}, {record("one"), "one(true)", []int{1}},
		{record("odd"), "odd(1,2)", []int{1, 2}}, {record("empty"), "empty( )", nil}, {record("two words="), "two#\nwords =( 4 )", []int{4}}, {record(""), "(4)", []int{4}},
	} {
		if l, e := value.Parse(4, c.t, records, c.text); !slices.Equal(l, c.want) || e != api.OK {
			t.Error(c, l, e)
		}
	}
}

func TestParseErrors(t *testing.T) {
	for of, texts := range map[api.Type][]string{
		integer:  {"", " ", "#1", "-", "--1", "1 1", "1,", "+1", "true", "[1]", "x", "1x", "1000000000", "0000000001", "1.0", "$1", "1$", "99 99", "(1)", "1-", "2-1"},
		truth:    {"", "0", "1", "True", "truefalse", "true false", "-true", "not true", "x", "[true]", "true$"},
		array(2): {"", "[", "[]", "[1]", "[1,]", "[1, 2", "[1, 2,]", "[1, 2, 3]", "[1 2]", "1, 2", "[1, 2]]", "[, 1, 2]", "(1, 2)", "[1, true]", "[99, 99", "[1; 2]", "[-, 2]", "[[1, 2]]"},
		record("point"): {"", "point", "point(", "point()", "point(1)", "point(1, true", "point(1, true,)", "point(1, true, 1)", "point(true, 1)", "point(1, 1)", "point(1 true)", "poin(1, true)", "points(1, true)",
			"(1, true)", "[1, true]", "point[1, true]", "point(1, true) 1", "point point(1, true)", "one(1, true)", "point(99, 1)", "point,(1, true)"},
		record("empty"):      {"", "empty", "empty(", "empty(1)", "empty(,)", "()", "empty())"},
		record("two words="): {"twowords=(4)", "two words(4)", "two(4)", "words=(4)"},
	} {
		for _, text := range texts {
			if l, e := value.Parse(4, of, records, text); len(l) != 0 || e != api.ErrSyntax {
				t.Errorf("%v %q %v %v", of, text, l, e)
			}
		}
	}
	for of, texts := range map[api.Type][]string{
		integer:         {"8", "-9", "999999999", "-999999999", "08"},
		array(2):        {"[8, 0]", "[0, 8]", "[0, -9]"},
		record("point"): {"point(8, true)", "point(-9, false)"},
	} {
		for _, text := range texts {
			if l, e := value.Parse(4, of, records, text); len(l) != 0 || e != api.ErrRange {
				t.Errorf("%v %q %v %v", of, text, l, e)
			}
		}
	}
}

func TestTheOrderOfParseErrors(t *testing.T) {
	long := strings.Repeat(" ", api.MaxSource)
	for _, width := range strange() {
		if l, e := value.Parse(width, api.Type{}, nil, long+"x"); len(l) != 0 || e != api.ErrRange {
			t.Error(width, l, e)
		}
	}
	for _, of := range missing() {
		for _, text := range []string{"1", "", "[1]", "[]", "other(1)", "other()", long + "x"} {
			if l, e := value.Parse(4, of, records, text); len(l) != 0 || e != api.ErrType {
				t.Error(of, text, l, e)
			}
		}
	}
	for text, want := range map[string]api.Errno{long[1:] + "5": api.OK, long + "5": api.ErrTooLarge, long + "x": api.ErrTooLarge, long[1:] + "9": api.ErrRange, long: api.ErrSyntax} {
		if _, e := value.Parse(4, integer, nil, text); e != want {
			t.Error(len(text), e, want)
		}
	}
	name := strings.Repeat("a", api.MaxSource)
	huge := []api.Record{{Name: name, Fields: []api.Field{{Name: "x", Type: integer}}}}
	for text, want := range map[string]api.Errno{name: api.ErrSyntax, "1)": api.ErrSyntax, "(1)": api.ErrSyntax, name + "(1)": api.ErrTooLarge} {
		if l, e := value.Parse(4, record(name), huge, text); len(l) != 0 || e != want {
			t.Error(len(text), l, e)
		}
	}
}

// P11.5

func TestNext(t *testing.T) {
	for _, c := range []struct{ low, high, l, want []int }{
		{[]int{0, 0}, []int{1, 2}, []int{0, 2}, []int{1, 0}}, {[]int{0, 0}, []int{1, 2}, []int{0, 0}, []int{0, 1}}, {[]int{0, 0}, []int{1, 2}, []int{1, 1}, []int{1, 2}}, {[]int{0, 0}, []int{1, 2}, []int{1, 2}, nil},
		{[]int{-3, 5, -1}, []int{-2, 5, 0}, []int{-3, 5, 0}, []int{-2, 5, -1}}, {[]int{4}, []int{4}, []int{4}, nil}, {nil, nil, nil, nil}, {[]int{}, nil, nil, nil},
		{[]int{0, 0}, []int{1, 2}, []int{0, 3}, nil}, {[]int{0, 0}, []int{1, 2}, []int{-1, 0}, nil}, {[]int{0, 0}, []int{1, 2}, []int{2, 0}, nil}, {[]int{0, 0}, []int{1, 2}, []int{0, -1}, nil}, {[]int{0, 1}, []int{1, 0}, []int{0, 0}, nil}, {[]int{0, 1}, []int{1, 0}, []int{0, 1}, nil},
		{[]int{0}, []int{1, 2}, []int{0}, nil}, {[]int{0, 0}, []int{1}, []int{0}, nil}, {[]int{0, 0}, []int{1, 2}, []int{0}, nil}, {[]int{0}, []int{1}, []int{0, 0}, nil}, {nil, nil, []int{0}, nil}, {[]int{0}, []int{1}, nil, nil},
		{[]int{math.MinInt, math.MinInt}, []int{math.MaxInt, math.MaxInt}, []int{5, math.MaxInt}, []int{6, math.MinInt}}, {[]int{math.MinInt}, []int{math.MaxInt}, []int{math.MaxInt}, nil},
	} {
		l, ok := value.Next(c.low, c.high, c.l)
		if !slices.Equal(l, c.want) || ok != (len(c.want) > 0) {
			t.Error(c, l, ok)
		}
	}
}

func TestResultsAreNew(t *testing.T) {
	low, high, l := []int{0, 0}, []int{1, 2}, []int{0, 2}
	next, _ := value.Next(low, high, l)
	next[0], next[1] = 7, 7
	if !slices.Equal(low, []int{0, 0}) || !slices.Equal(high, []int{1, 2}) || !slices.Equal(l, []int{0, 2}) {
		t.Error(low, high, l)
	}
	next, _ = value.Next(low, high, []int{0, 0})
	next[0], next[1] = 7, 7
	if !slices.Equal(low, []int{0, 0}) || !slices.Equal(high, []int{1, 2}) {
		t.Error(low, high)
	}
}
