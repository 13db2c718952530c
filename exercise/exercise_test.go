package exercise_test

import (
	"math"
	"reflect"
	"slices"
	"strings"
	"testing"

	"assessor/api"
	"assessor/checker"
	"assessor/exercise"
)

const maxSource = "proc max(a: int, b: int): int { if a < b { return b; } return a; }"

// exerciseMax is the one of the chapter's examples, with a source, changed by functions.
func exerciseMax(changes ...func(*api.Exercise)) api.Exercise {
	x := api.Exercise{Source: maxSource, Entry: "max", Model: true, Bounds: api.Bounds{Width: 3, Loops: 2}, Ranges: []api.Range{{Lo: -1, Hi: 1}, {Lo: 0, Hi: 2}}}
	for _, change := range changes {
		change(&x)
	}
	return x
}

// exerciseOf is one with the entry f of a source, with 4 bits and 8 rounds, and with Accepts and Given if there are such procedures.
func exerciseOf(source string, model bool, ranges ...api.Range) api.Exercise {
	x := api.Exercise{Source: source, Entry: "f", Model: model, Bounds: api.Bounds{Width: 4, Loops: 8}, Ranges: ranges}
	if strings.Contains(source, "proc accepts(") {
		x.Accepts = "accepts"
	}
	if strings.Contains(source, "proc given(") {
		x.Given = "given"
	}
	return x
}

func from(lo, hi int) api.Range { return api.Range{Lo: lo, Hi: hi} }

func task(t *testing.T, x api.Exercise) *exercise.Task {
	t.Helper()
	made, e := exercise.New(x)
	if e != api.OK {
		t.Fatal(x, e)
	}
	return made
}

func submit(t *testing.T, of *exercise.Task, source string) *exercise.Submission {
	t.Helper()
	s, wrong, e := of.Submit(source)
	if e != api.OK || len(wrong) > 0 {
		t.Fatal(source, wrong, e)
	}
	return s
}

// P16.1

func TestNew(t *testing.T) {
	x := exerciseMax()
	made := task(t, x)
	p, _, _ := checker.Check(maxSource)
	if !reflect.DeepEqual(made.Exercise(), x) || !reflect.DeepEqual(made.Program(), p) || made.Count() != 9 {
		t.Error(made.Exercise(), made.Count())
	}
	for _, c := range []struct {
		x     api.Exercise
		count int
	}{
		{exerciseOf("proc f(): int { return 1; }", true), 1},
		{exerciseOf("proc f() { }", true), 1},
		{exerciseOf("proc f(b: bool): bool { return not b; }", true, from(1, 1)), 1},
		{exerciseOf("proc f(x: int, b: bool): bool { return not b; }", true, from(-8, 7), from(0, 1)), 32},
		{exerciseOf("record r { k: int, m: bool } proc f(x: r, a: int[3]) { }", true, from(-8, 7), from(0, 1), from(1, 1), from(0, 2), from(-1, 0)), 192},
	} {
		if made := task(t, c.x); made.Count() != c.count || !reflect.DeepEqual(made.Exercise(), c.x) {
			t.Error(c.x, made.Count())
		}
	}
}

// long is a procedure that takes and returns an int, whose cost with 8 rounds is MaxCost with some statements more.
func long(name string, more int) string {
	x := func(count int) string { return strings.Repeat("x=x;", count) }
	return "proc " + name + "(x: int): int { for i = 0 to 0 { for j = 0 to 0 { " + x(30) + "} } " + x(46+more) + " return x; }"
}

func TestCostOfLong(t *testing.T) {
	p, _, _ := checker.Check(long("f", 0))
	if cost, e := checker.Cost(p, 0, 8); cost != api.MaxCost || e != api.OK {
		t.Error(cost, e)
	}
}

func testNew(t *testing.T, name string, x api.Exercise, want api.Errno) {
	t.Helper()
	if made, e := exercise.New(x); e != want || (made == nil) != (want != api.OK) {
		t.Error(name, e, "instead of", want)
	}
}

func TestErrorsOfNew(t *testing.T) {
	padded := func(size int) string { return maxSource + strings.Repeat(" ", size-len(maxSource)) }
	for name, c := range map[string]struct {
		change func(*api.Exercise)
		want   api.Errno
	}{
		"longest text":       {func(x *api.Exercise) { x.Source = padded(api.MaxSource) }, api.OK},
		"too long a text":    {func(x *api.Exercise) { x.Source = padded(api.MaxSource + 1) }, api.ErrTooLarge},
		"broken program":     {func(x *api.Exercise) { x.Source = maxSource + "}" }, api.ErrSyntax},
		"conflict":           {func(x *api.Exercise) { x.Source = strings.Replace(maxSource, "a < b", "a", 1) }, api.ErrSyntax},
		"no program":         {func(x *api.Exercise) { x.Source = "" }, api.ErrName},
		"least width":        {func(x *api.Exercise) { x.Bounds.Width = 2; x.Ranges[1].Hi = 1 }, api.OK},
		"greatest width":     {func(x *api.Exercise) { x.Bounds.Width = 8 }, api.OK},
		"narrow":             {func(x *api.Exercise) { x.Bounds.Width = 1 }, api.ErrRange},
		"wide":               {func(x *api.Exercise) { x.Bounds.Width = 9 }, api.ErrRange},
		"no rounds":          {func(x *api.Exercise) { x.Bounds.Loops = 0 }, api.OK},
		"most rounds":        {func(x *api.Exercise) { x.Bounds.Loops = api.MaxLoops }, api.OK},
		"negative rounds":    {func(x *api.Exercise) { x.Bounds.Loops = -1 }, api.ErrRange},
		"too many rounds":    {func(x *api.Exercise) { x.Bounds.Loops = api.MaxLoops + 1 }, api.ErrRange},
		"no entry":           {func(x *api.Exercise) { x.Entry = "" }, api.ErrName},
		"unknown entry":      {func(x *api.Exercise) { x.Entry = "min" }, api.ErrName},
		"parameter":          {func(x *api.Exercise) { x.Entry = "a" }, api.ErrName},
		"unknown Accepts":    {func(x *api.Exercise) { x.Accepts = "good" }, api.ErrName},
		"unknown Given":      {func(x *api.Exercise) { x.Given = "good" }, api.ErrName},
		"nothing asked":      {func(x *api.Exercise) { x.Model = false }, api.ErrArg},
		"no ranges":          {func(x *api.Exercise) { x.Ranges = nil }, api.ErrArg},
		"too few ranges":     {func(x *api.Exercise) { x.Ranges = x.Ranges[:1] }, api.ErrArg},
		"too many ranges":    {func(x *api.Exercise) { x.Ranges = append(x.Ranges, api.Range{}) }, api.ErrArg},
		"widest ranges":      {func(x *api.Exercise) { x.Ranges = []api.Range{from(-4, 3), from(-4, 3)} }, api.OK},
		"one int":            {func(x *api.Exercise) { x.Ranges[0] = from(3, 3) }, api.OK},
		"empty range":        {func(x *api.Exercise) { x.Ranges[0] = from(1, 0) }, api.ErrRange},
		"range too low":      {func(x *api.Exercise) { x.Ranges[1] = from(-5, 0) }, api.ErrRange},
		"range too high":     {func(x *api.Exercise) { x.Ranges[1] = from(0, 4) }, api.ErrRange},
		"greatest range":     {func(x *api.Exercise) { x.Ranges[1] = from(math.MinInt, math.MaxInt) }, api.ErrRange},
		"text, then width":   {func(x *api.Exercise) { x.Source = padded(api.MaxSource + 1); x.Bounds.Width = 1 }, api.ErrTooLarge},
		"broken, then width": {func(x *api.Exercise) { x.Source = "x"; x.Bounds.Width = 1 }, api.ErrSyntax},
		"width, then name":   {func(x *api.Exercise) { x.Entry = "min"; x.Bounds.Width = 1 }, api.ErrRange},
		"rounds, then name":  {func(x *api.Exercise) { x.Entry = "min"; x.Bounds.Loops = 9 }, api.ErrRange},
		"name, then asked":   {func(x *api.Exercise) { x.Given = "min"; x.Model = false }, api.ErrName},
		"count, then range":  {func(x *api.Exercise) { x.Ranges = []api.Range{from(1, 0)} }, api.ErrArg},
	} {
		testNew(t, name, exerciseMax(c.change), c.want)
	}
}

func TestTypesOfNew(t *testing.T) {
	for _, c := range []struct {
		source string
		model  bool
		want   api.Errno
	}{
		{"proc f(x: int): int { return x; } proc g(y): int { return y; }", true, api.OK},
		{"proc f(x): int { return x; }", true, api.ErrType},
		{"proc f(x: int): int { return x; } proc accepts(x: int, y: int): bool { return x == y; }", true, api.OK},
		{"proc f(x: int): int { return x; } proc accepts(x: int, y: int): bool { return x == y; }", false, api.OK},
		{"proc f(x: int): int { return x; } proc accepts(x: int, y): bool { return x == y; }", false, api.ErrType},
		{"proc f(x: int): int { return x; } proc accepts(x, y: int): bool { return x == y; }", false, api.ErrType},
		{"proc f(x: int): int { return x; } proc accepts(x: int): bool { return x == 1; }", false, api.ErrType},
		{"proc f(x: int): int { return x; } proc accepts(x: int, y: int, z: int): bool { return x == y; }", false, api.ErrType},
		{"proc f(x: int): int { return x; } proc accepts(x: int, y: bool): bool { return y; }", false, api.ErrType},
		{"proc f(x: int): int { return x; } proc accepts(x: int, y: int): int { return x; }", false, api.ErrType},
		{"proc f(x: int): int { return x; } proc accepts(x: int, y: int) { }", false, api.ErrType},
		{"proc f(x: int): int { return x; } proc accepts(x: int, var y: int) { }", false, api.ErrType},
		{"proc f(x: int): bool { return x > 0; } proc accepts(x: int, y: bool): bool { return y; }", false, api.OK},
		{"proc f(x: int): bool { return x > 0; } proc accepts(y: bool, x: int): bool { return y; }", false, api.ErrType},
		{"proc f(x: int) { } proc accepts(x: int): bool { return x == 1; }", false, api.OK},
		{"proc f(x: int) { } proc accepts(): bool { return true; }", false, api.ErrType},
		{"proc f(x: int): int[2] { return [x, x]; } proc accepts(x: int, y: int[2]): bool { return x == y[0]; }", false, api.OK},
		{"proc f(x: int): int[2] { return [x, x]; } proc accepts(x: int, y: int[3]): bool { return x == y[0]; }", false, api.ErrType},
		{"proc f(x: int): int[2] { return [x, x]; } proc accepts(x: int, y: int, z: int): bool { return x == y; }", false, api.ErrType},
		{"record r { k: int } proc f(x: int): r { return r(x); } proc accepts(x: int, y: r): bool { return x == y.k; }", false, api.OK},
		{"record r { k: int } record s { m: int } proc f(x: int): r { return r(x); } proc accepts(x: int, y: s): bool { return x == y.m; }", false, api.ErrType},
		{"proc f(var x: int) { } proc accepts(x: int, y: int): bool { return x == y; }", false, api.OK},
		{"proc f(var x: int) { } proc accepts(x: int): bool { return x == 1; }", false, api.ErrType},
		{"proc f(x: int): int { return x; } proc given(x: int): bool { return x > 0; }", true, api.OK},
		{"proc f(x: int): int { return x; } proc given(x: int): bool { return x > 0; }", false, api.ErrArg},
		{"proc f(x: int): int { return x; } proc given(x): bool { return x > 0; }", true, api.ErrType},
		{"proc f(x: int): int { return x; } proc given(x: int): int { return x; }", true, api.ErrType},
		{"proc f(x: int): int { return x; } proc given(x: int) { }", true, api.ErrType},
		{"proc f(x: int): int { return x; } proc given(): bool { return true; }", true, api.ErrType},
		{"proc f(x: int): int { return x; } proc given(x: int, y: int): bool { return true; }", true, api.ErrType},
		{"proc f(x: int): int { return x; } proc given(x: bool): bool { return x; }", true, api.ErrType},
		{"proc f(x: int): int { return x; } proc given(x: int): bool { return x > 0; } proc accepts(x: int, y: int): bool { return x == y; }", false, api.OK},
		{"proc f(x: int): int { return x; } proc given(x): bool { return x > 0; } proc accepts(x: int): bool { return true; }", false, api.ErrType},
	} {
		testNew(t, c.source, exerciseOf(c.source, c.model, from(0, 1)), c.want)
	}
	several := "proc f(x: int, var a: int[2], b: bool, var c: bool) { } proc accepts(x: int, a: int[2], b: bool, c: bool, l: int[2], d: bool): bool { return d; } proc given(x: int, a: int[2], b: bool, c: bool): bool { return c; }"
	x := exerciseOf(several, false, from(0, 1), from(0, 1), from(0, 1), from(0, 1), from(0, 1))
	testNew(t, several, x, api.OK)
	x.Source = strings.Replace(several, "l: int[2], d: bool", "d: bool, l: int[2]", 1)
	testNew(t, x.Source, x, api.ErrType)
	x = exerciseOf("proc f(x: bool): bool { return x; }", true, from(0, 1))
	x.Given = "f"
	testNew(t, "the entry as Given", x, api.OK)
	x = exerciseOf("proc f(x): int { return x; } proc accepts(x: int, y: int): bool { return x == y; }", false, from(0, 1))
	x.Accepts = ""
	testNew(t, "nothing asked, then types", x, api.ErrArg)
}

func TestSizesOfNew(t *testing.T) {
	arrays := "proc f(a: int[8], b: int[8], c: int[8]) { }"
	one := slices.Repeat([]api.Range{from(1, 1)}, 30)
	accepts := func(more int) string {
		return strings.Replace(strings.Replace(long("accepts", more), "(x: int): int", "(x: int, y: int): bool", 1), "return x", "return x == y", 1)
	}
	given := func(more int) string {
		return strings.Replace(strings.Replace(long("given", more), ": int {", ": bool {", 1), "return x", "return x > 0", 1)
	}
	short := "proc f(x: int): int { return x; } "
	whole := from(-128, 127)
	wide := func(s string, ranges ...api.Range) api.Exercise {
		x := exerciseOf(s, true, ranges...)
		x.Bounds.Width = 8
		return x
	}
	for name, c := range map[string]struct {
		x    api.Exercise
		want api.Errno
	}{
		"24 scalars":          {exerciseOf(arrays, true, one[:24]...), api.OK},
		"25 scalars":          {exerciseOf(strings.Replace(arrays, "]) {", "], d: int) {", 1), true, one[:25]...), api.ErrTooLarge},
		"24 results":          {exerciseOf("proc f(var a: int[8], var b: int[8], var c: int[8]) { }", true, one[:24]...), api.OK},
		"scalars, then count": {exerciseOf(strings.Replace(arrays, "]) {", "], d: int) {", 1), true), api.ErrTooLarge},
		"types, then scalars": {exerciseOf("proc f(a: int[8], b: int[8], c: int[8], d: bool, e) { e = d; }", true), api.ErrType},
		"cost":                {exerciseOf(long("f", 0), true, from(0, 0)), api.OK},
		"too great a cost":    {exerciseOf(long("f", 1), true, from(0, 0)), api.ErrTooLarge},
		"cost, then count":    {exerciseOf(long("f", 1), true), api.ErrTooLarge},
		"without a model":     {exerciseOf(long("f", 1)+"proc accepts(x: int, y: int): bool { return x == y; }", false, from(0, 0)), api.OK},
		"cost of another":     {exerciseOf(short+long("g", 1), true, from(0, 0)), api.OK},
		"cost of Accepts":     {exerciseOf(short+accepts(0), false, from(0, 0)), api.OK},
		"too great, Accepts":  {exerciseOf(short+accepts(1), false, from(0, 0)), api.ErrTooLarge},
		"cost of Given":       {exerciseOf(short+given(0), true, from(0, 0)), api.OK},
		"too great, Given":    {exerciseOf(short+given(1), true, from(0, 0)), api.ErrTooLarge},
		"bools":               {exerciseOf("proc f(x: bool, y: bool, z: bool) { }", true, from(0, 1), from(0, 0), from(1, 1)), api.OK},
		"a bool too low":      {exerciseOf("proc f(x: bool) { }", true, from(-1, 1)), api.ErrRange},
		"a bool too high":     {exerciseOf("proc f(x: bool) { }", true, from(0, 2)), api.ErrRange},
		"a bool of a record":  {exerciseOf("record r { k: int, m: bool } proc f(x: r) { }", true, from(0, 2), from(0, 2)), api.ErrRange},
		"an int of a record":  {exerciseOf("record r { k: int, m: bool } proc f(x: r) { }", true, from(0, 2), from(0, 1)), api.OK},
		"largest domain":      {wide("proc f(x: int, y: int, z: int) { }", whole, from(3, 3), whole), api.OK},
		"too large a domain":  {wide("proc f(x: int, y: int, z: bool) { }", whole, whole, from(0, 1)), api.ErrTooLarge},
		"65792 inputs":        {wide("proc f(x: int, y: int, z: int) { }", whole, from(0, 0), whole), api.OK},
		"65537 inputs":        {wide("proc f(a: int[3]) { }", from(0, 0), from(0, 256), whole), api.ErrRange},
		"65550 inputs":        {wide("proc f(a: int[4]) { }", from(0, 18), from(0, 22), from(0, 14), from(0, 9)), api.ErrTooLarge},
		"65520 inputs":        {wide("proc f(a: int[4]) { }", from(0, 15), from(0, 14), from(0, 20), from(0, 12)), api.OK},
		"domain of 24 ints":   {wide(arrays, slices.Repeat([]api.Range{whole}, 24)...), api.ErrTooLarge},
		"range, then domain":  {wide(arrays, slices.Concat(slices.Repeat([]api.Range{whole}, 23), []api.Range{from(2, 1)})...), api.ErrRange},
	} {
		testNew(t, name, c.x, c.want)
	}
	x := exerciseOf(long("f", 1), true, from(0, 0))
	x.Bounds.Loops = 7
	testNew(t, "with less rounds", x, api.OK)
	if made := task(t, wide("proc f(x: int, y: int) { }", whole, whole)); made.Count() != 1<<api.MaxInputBits {
		t.Error(made.Count())
	}
}

// P16.2

func TestInputAndIndex(t *testing.T) {
	made := task(t, exerciseOf("record r { k: int, m: bool } proc f(x: r, y: int) { }", true, from(-2, 1), from(0, 1), from(5, 7)))
	i := 0
	for k := -2; k <= 1; k++ {
		for m := 0; m <= 1; m++ {
			for y := 5; y <= 7; y++ {
				input, e := made.Input(i)
				n, f := made.Index([]int{k, m, y})
				if !slices.Equal(input, []int{k, m, y}) || e != api.OK || n != i || f != api.OK {
					t.Error(i, input, e, n, f)
				}
				i++
			}
		}
	}
	if made.Count() != i {
		t.Error(made.Count())
	}
	for _, i := range []int{-1, 24, math.MinInt, math.MaxInt} {
		if input, e := made.Input(i); len(input) > 0 || e != api.ErrRange {
			t.Error(i, input, e)
		}
	}
	none := task(t, exerciseOf("proc f() { }", true))
	input, e := none.Input(0)
	n, f := none.Index(nil)
	if len(input) > 0 || e != api.OK || n != 0 || f != api.OK {
		t.Error(input, e, n, f)
	}
	if input, e := none.Input(1); len(input) > 0 || e != api.ErrRange {
		t.Error(input, e)
	}
}

// outside are lists that are not in the domain of exerciseMax.
func outside() [][]int {
	return [][]int{nil, {0}, {0, 0, 0}, {-2, 0}, {2, 0}, {0, -1}, {0, 3}, {math.MinInt, 0}, {0, math.MaxInt}}
}

func TestInputsOutsideOfTheDomain(t *testing.T) {
	made := task(t, exerciseMax(func(x *api.Exercise) {
		x.Source += "proc given(a: int, b: int): bool { return true; }"
		x.Given = "given"
	}))
	s := submit(t, made, maxSource)
	for _, input := range outside() {
		i, e1 := made.Index(input)
		ok, e2 := made.Relevant(input)
		call, e3 := made.Call(input)
		c, e4 := s.Try(input)
		if e1 != api.ErrArg || e2 != api.ErrArg || e3 != api.ErrArg || e4 != api.ErrArg || i != 0 || ok || call != "" || !reflect.DeepEqual(c, api.Case{}) {
			t.Error(input, i, ok, call, c, e1, e2, e3, e4)
		}
	}
}

func TestCall(t *testing.T) {
	wide, some := from(-8, 7), from(-2, 3)
	for _, c := range []struct {
		x     api.Exercise
		input []int
		want  string
	}{
		{exerciseMax(), []int{0, 2}, "max(0, 2)"},
		{exerciseMax(), []int{-1, 0}, "max(-1, 0)"},
		{exerciseOf("proc f() { }", true), nil, "f()"},
		{exerciseOf("proc f(b: bool) { }", true, from(0, 1)), []int{1}, "f(true)"},
		{exerciseOf("proc f(var a: int[1]) { }", true, wide), []int{-8}, "f([-8])"},
		{exerciseOf("record r { k: int, m: bool } proc f(x: int, b: bool, a: int[2], p: r) { }", true, some, from(0, 1), some, some, some, from(0, 1)), []int{1, 0, -2, 3, -1, 1}, "f(1, false, [-2, 3], r(-1, true))"},
		{exerciseOf("record r { k: int, m: bool } proc f(var p: r, a: int[2], var x: int) { var y = x; }", true, from(0, 7), from(0, 1), from(0, 7), from(0, 7), from(0, 7)), []int{7, 0, 0, 5, 4}, "f(r(7, false), [0, 5], 4)"},
	} {
		made := task(t, c.x)
		if s, e := made.Call(c.input); s != c.want || e != api.OK {
			t.Error(s, e)
		}
	}
}

// P16.3

func TestRelevant(t *testing.T) {
	for body, want := range map[string]string{
		"return true;": "111111", "return false;": "000000", "return x > 0;": "000111", "return 4 / x > 0 or true;": "110111", "while x > 0 { x = x - 1; } return x == 0;": "001111", "for i = x to 7 { } return true;": "001111", "assert x != 1; return true;": "111011", "if x < 2 { return true; }": "111100",
	} {
		made := task(t, exerciseOf("proc f(x: int): int { return x; } proc given(x: int): bool { "+body+" }", true, from(-2, 3)))
		got := ""
		for i := range made.Count() {
			input, _ := made.Input(i)
			ok, e := made.Relevant(input)
			if e != api.OK {
				t.Fatal(body, input, e)
			}
			got += map[bool]string{false: "0", true: "1"}[ok]
		}
		if got != want {
			t.Error(body, got)
		}
	}
	made := task(t, exerciseMax())
	if ok, e := made.Relevant([]int{0, 0}); !ok || e != api.OK {
		t.Error(ok, e)
	}
}

func TestSubmit(t *testing.T) {
	front := "record r { k: int, m: bool } "
	entry := front + "proc f(var x: int, b: bool, var a: int[2], p: r) { } "
	ranges := []api.Range{from(0, 0), from(0, 0), from(0, 0), from(0, 0), from(0, 0), from(0, 0)}
	forms := map[string]api.Exercise{
		"var": exerciseOf(entry, true, ranges...), "result": exerciseOf("proc f(x: int): int { return x; }", true, from(0, 0)), "record": exerciseOf(front+"proc f(x: int): r { return r(x, true); }", true, from(0, 0)), "nothing": exerciseOf("proc f() { }", true),
	}
	for _, c := range []struct {
		form, source string
		want         api.Errno
	}{
		{"var", entry, api.OK},
		{"var", "proc f(var y: int, c: bool, var d: int[2], q: r) { } proc g() { } record s { z: int } " + front, api.OK},
		{"var", front + "proc f(var x, b, var a, p) { x = p.k; b = p.m; a = [x, x]; p = r(1, b); }", api.OK},
		{"var", front + "proc f(x: int, b: bool, var a: int[2], p: r) { }", api.ErrType},
		{"var", front + "proc f(var x: int, var b: bool, var a: int[2], p: r) { }", api.ErrType},
		{"var", front + "proc f(var x: int, var b: bool, a: int[2], p: r) { }", api.ErrType},
		{"var", front + "proc f(var x: int, b: bool, var a: int[2]) { }", api.ErrType},
		{"var", front + "proc f(var x: int, b: bool, var a: int[2], p: r, y: int) { }", api.ErrType},
		{"var", front + "proc f(b: bool, var x: int, var a: int[2], p: r) { }", api.ErrType},
		{"var", front + "proc f(var x: int, b: bool, var a: int[3], p: r) { }", api.ErrType},
		{"var", front + "proc f(var x: int, b: int, var a: int[2], p: r) { }", api.ErrType},
		{"var", "record r { k: int, n: bool } proc f(var x: int, b: bool, var a: int[2], p: r) { }", api.ErrType},
		{"var", "record r { m: bool, k: int } proc f(var x: int, b: bool, var a: int[2], p: r) { }", api.ErrType},
		{"var", "record r { k: int, m: int } proc f(var x: int, b: bool, var a: int[2], p: r) { }", api.ErrType},
		{"var", "record r { k: int, m: bool, n: bool } proc f(var x: int, b: bool, var a: int[2], p: r) { }", api.ErrType},
		{"var", "record q { k: int, m: bool } proc f(var x: int, b: bool, var a: int[2], p: q) { }", api.ErrType},
		{"result", "proc f(x): int { return -x; }", api.OK},
		{"result", "proc f(x: int): bool { return x == x; }", api.ErrType},
		{"result", "proc f(x: int): int[1] { return [x]; }", api.ErrType},
		{"result", "proc f(x: int) { }", api.ErrType},
		{"result", "proc f(var x: int) { }", api.ErrType},
		{"result", "proc f(): int { return 1; }", api.ErrType},
		{"record", front + "proc f(x: int): r { return r(2, false); }", api.OK},
		{"record", "record r { k: int } proc f(x: int): r { return r(2); }", api.ErrType},
		{"record", "record q { k: int, m: bool } proc f(x: int): q { return q(2, false); }", api.ErrType},
		{"nothing", "proc f() { assert false; }", api.OK},
		{"nothing", "proc f(): int { return 1; }", api.ErrType},
		{"nothing", "proc f(x: int) { }", api.ErrType},
		{"result", "proc g(x: int): int { return x; }", api.ErrName},
		{"result", "", api.ErrName},
		{"result", "proc g(f: int): int { return f; }", api.ErrName},
		{"result", long("f", 0), api.OK},
		{"result", long("f", 1), api.ErrTooLarge},
		{"result", "proc f(x: int): int { return x; } " + long("g", 1), api.OK},
		{"result", "proc f(x: int): int { return g(x); } " + long("g", 0), api.ErrTooLarge},
		{"nothing", long("f", 1), api.ErrType},
		{"nothing", strings.Repeat(" ", api.MaxSource+1), api.ErrTooLarge},
		{"nothing", strings.Repeat(" ", api.MaxSource), api.ErrName},
	} {
		s, wrong, e := task(t, forms[c.form]).Submit(c.source)
		if e != c.want || len(wrong) > 0 || (s == nil) != (e != api.OK) {
			t.Error(c.form, c.source, wrong, e)
		}
		if p, _, _ := checker.Check(c.source); s != nil && !reflect.DeepEqual(s.Program(), p) {
			t.Error(c.source, s.Program())
		}
	}
}

func TestDiagnosticsOfSubmit(t *testing.T) {
	made := task(t, exerciseMax())
	for _, source := range []string{"proc max(a: int, b: int): int { return a }", "proc max(a: int, b: int): int { return a == b; }", "proc f() { x = 1; y = 2; }", "$"} {
		s, wrong, e := made.Submit(source)
		_, want, _ := checker.Check(source)
		if s != nil || e != api.ErrSyntax || len(want) == 0 || !reflect.DeepEqual(wrong, want) {
			t.Error(source, wrong, e)
		}
	}
}

// The rounds of the exercise count for the cost of a submission.
func TestCostOfSubmission(t *testing.T) {
	x := exerciseOf("proc f(x: int): int { return x; }", true, from(0, 0))
	for loops := range 9 {
		x.Bounds.Loops = loops
		_, _, e := task(t, x).Submit(long("f", 1))
		if want := map[bool]api.Errno{false: api.OK, true: api.ErrTooLarge}[loops == 8]; e != want {
			t.Error(loops, e)
		}
	}
}

// P16.4

func out(l ...int) api.Outcome { return api.Outcome{Out: l} }

func fault(kind int) api.Outcome { return api.Outcome{Fault: kind} }

func TestTry(t *testing.T) {
	model := "proc f(x: int): int { return 4 / x; } "
	near := "proc accepts(x: int, y: int): bool { return 4 / y >= x; } "
	positive := "proc given(x: int): bool { return x > 0; } "
	none := api.Outcome{}
	for _, c := range []struct {
		source            string
		model             bool
		submission        string
		input             int
		relevant, right   bool
		outcome, expected api.Outcome
	}{
		{model, true, "return 4 / x;", 2, true, true, out(2), out(2)},
		{model, true, "return 4 / x;", 0, true, true, fault(api.FaultDivide), fault(api.FaultDivide)},
		{model, true, "return x;", 2, true, true, out(2), out(2)},
		{model, true, "return x;", 1, true, false, out(1), out(4)},
		{model, true, "return x;", 0, true, false, out(0), fault(api.FaultDivide)},
		{model, true, "assert x != 0; return 4 / x;", 0, true, false, fault(api.FaultAssert), fault(api.FaultDivide)},
		{model, true, "assert x != 1; return 4 / x;", 1, true, false, fault(api.FaultAssert), out(4)},
		{model, true, "while true { } return x;", 1, true, false, fault(api.FaultLimit), out(4)},
		{model, true, "if x != 1 { return 0; }", 1, true, false, fault(api.FaultReturn), out(4)},
		{model, true, "return [x][x];", 1, true, false, fault(api.FaultIndex), out(4)},
		{model + positive, true, "return x;", 0, false, false, none, none},
		{model + positive, true, "return x;", 2, true, true, out(2), out(2)},
		{model + positive, true, "return x;", 1, true, false, out(1), out(4)},
		{model + near, false, "return x;", 2, true, true, out(2), none},
		{model + near, false, "return x;", 3, true, false, out(3), none},
		{model + near, false, "return x;", 0, true, false, out(0), none},
		{model + near, false, "return 0 - 4;", 0, true, false, out(-4), none},
		{model + near, false, "return 1;", 0, true, true, out(1), none},
		{model + near, false, "return 4 / x;", 0, true, false, fault(api.FaultDivide), none},
		{model + near, true, "return 4 / x;", 0, true, false, fault(api.FaultDivide), fault(api.FaultDivide)},
		{model + near, true, "return 4 / x;", 2, true, true, out(2), out(2)},
		{model + near, true, "return 4 / x;", 3, true, true, out(1), out(1)},
		{model + near, true, "return 1;", 2, true, false, out(1), out(2)},
		{model + near, true, "return x;", 2, true, true, out(2), out(2)},
		{model + near + positive, true, "return x;", -1, false, false, none, none},
		{model + near + positive, false, "return 1;", -1, false, false, none, none},
		{model + near + positive, false, "return 1;", 1, true, true, out(1), none},
	} {
		made := task(t, exerciseOf(c.source, c.model, from(-2, 3)))
		submission := strings.Replace(c.submission, "[x][x]", "g([x], x)", 1)
		s := submit(t, made, "proc g(a: int[1], i: int): int { return a[i]; } proc f(x: int): int { "+submission+" }")
		got, e := s.Try([]int{c.input})
		want := api.Case{Input: []int{c.input}, Relevant: c.relevant, Right: c.right, Outcome: c.outcome, Expected: c.expected}
		if !reflect.DeepEqual(got, want) || e != api.OK {
			t.Errorf("%s %v: %s for %d\n%v instead of %v, %v", c.source, c.model, c.submission, c.input, got, want, e)
		}
	}
}

func TestTryOfVarParameters(t *testing.T) {
	source := "record r { k: int, m: bool } proc f(var a: int[2], x: int, var p: r) { a[x] = p.k; p.m = x == 0; } proc accepts(a: int[2], x: int, p: r, b: int[2], q: r): bool { return b[x] == p.k and b[1 - x] == a[1 - x] and q.k == p.k; }"
	ranges := []api.Range{from(0, 7), from(0, 7), from(0, 1), from(0, 7), from(0, 1)}
	header := "record r { k: int, m: bool } proc f(var a: int[2], x: int, var p: r) { "
	for _, c := range []struct {
		body  string
		model bool
		right bool
		out   []int
	}{
		{"a[x] = p.k; p.m = x == 0; x = 5; }", true, true, []int{3, 6, 6, 0}},
		{"a[x] = p.k; p.m = true; }", true, false, []int{3, 6, 6, 1}},
		{"a[x] = p.k; p.m = true; }", false, true, []int{3, 6, 6, 1}},
		{"a[0] = p.k; }", false, false, []int{6, 4, 6, 1}},
		{"a[x] = p.k; p.k = 1; }", false, false, []int{3, 6, 1, 1}},
	} {
		made := task(t, exerciseOf(source, c.model, ranges...))
		got, e := submit(t, made, header+c.body).Try([]int{3, 4, 1, 6, 1})
		want := api.Case{Input: []int{3, 4, 1, 6, 1}, Relevant: true, Right: c.right, Outcome: out(c.out...)}
		if c.model {
			want.Expected = out(3, 6, 6, 0)
		}
		if !reflect.DeepEqual(got, want) || e != api.OK {
			t.Error(c.body, got, e)
		}
	}
}

// P16.5

func TestSearch(t *testing.T) {
	given := func(x *api.Exercise) {
		x.Source += "proc given(a: int, b: int): bool { return 3 / b > 0; }"
		x.Given = "given"
	}
	wrong := "proc max(a: int, b: int): int { return a; }" // It is right on the inputs 3, 6 and 7.
	last := strings.Replace(maxSource, "a < b", "a < b and a + b < 3", 1)
	for i, c := range []struct {
		x          api.Exercise
		submission string
		from, want int
		ok         bool
	}{
		{exerciseMax(), maxSource, 0, 0, false}, {exerciseMax(), strings.Replace(maxSource, "<", "<=", 1), -5, 0, false},
		{exerciseMax(), wrong, 0, 0, true}, {exerciseMax(), wrong, math.MinInt, 0, true}, {exerciseMax(), wrong, -1, 0, true}, {exerciseMax(), wrong, 1, 1, true}, {exerciseMax(), wrong, 2, 2, true}, {exerciseMax(), wrong, 3, 4, true}, {exerciseMax(), wrong, 5, 5, true}, {exerciseMax(), wrong, 6, 8, true}, {exerciseMax(), wrong, 8, 8, true}, {exerciseMax(), wrong, 9, 0, false}, {exerciseMax(), wrong, math.MaxInt, 0, false},
		{exerciseMax(given), wrong, 0, 1, true}, {exerciseMax(given), wrong, 3, 4, true}, {exerciseMax(given), maxSource, 0, 0, false},
		{exerciseMax(), last, 0, 8, true},
	} {
		s := submit(t, task(t, c.x), c.submission)
		if got, ok := s.Search(c.from); got != c.want || ok != c.ok {
			t.Error(i, got, ok)
		}
	}
}

func TestLarge(t *testing.T) {
	for _, c := range []struct {
		source string
		width  int
		want   string
	}{
		{"proc f() { var x = 7; }", 4, ""}, {"proc f() { var x = 8; }", 4, "8"}, {"proc f() { var x = 8; }", 5, ""}, {"proc f() { var x = -8; }", 4, "8"}, {"proc f() { var x = 1 + 2; }", 2, "2"}, {"proc f() { var x = 127; x = 128; x = 999999999; }", 8, "128 999999999"},
		{"proc f() { } proc g(a: int[8]): int { for i = 8 to 7 { assert a[9] == 10; } return 007 * 0012; }", 4, "8 9 10 0012"}, {"record r { k: int } proc f() { var x = r(4); var y = [3, 5, 2]; var b = x.k < 6 or true; }", 3, "4 5 6"}, {"proc f() { }", 2, ""},
	} {
		x := exerciseOf("proc f() { }", true)
		x.Bounds.Width = c.width
		s := submit(t, task(t, x), c.source)
		var words []string
		nodes := preorder(s.Program().Tree)
		large := s.Large()
		for _, number := range large {
			words = append(words, c.source[nodes[number].At:nodes[number].End])
		}
		if got := strings.Join(words, " "); got != c.want || !slices.IsSorted(large) {
			t.Error(c.source, c.width, got, large)
		}
	}
}

func preorder(n api.Node) []api.Node {
	l := []api.Node{n}
	for _, k := range n.Kids {
		l = append(l, preorder(k)...)
	}
	return l
}

func TestExamples(t *testing.T) {
	made := task(t, exerciseMax())
	if i, e := made.Index([]int{0, 2}); i != 5 || e != api.OK || made.Count() != 9 {
		t.Error(i, e, made.Count())
	}
	if i, ok := submit(t, made, strings.Replace(maxSource, "a < b", "a <= b", 1)).Search(0); ok {
		t.Error(i)
	}
	c, _ := submit(t, made, strings.Replace(maxSource, "a < b", "a > b", 1)).Try([]int{-1, 0})
	if want := (api.Case{Input: []int{-1, 0}, Relevant: true, Outcome: out(-1), Expected: out(0)}); !reflect.DeepEqual(c, want) {
		t.Error(c)
	}
}
