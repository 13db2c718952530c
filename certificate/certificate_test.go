package certificate_test

import (
	"math"
	"slices"
	"strconv"
	"strings"
	"testing"

	"assessor/api"
	"assessor/certificate"
	"assessor/exercise"
	"assessor/proof"
	"assessor/solver"
)

const maxSource = "proc max(a: int, b: int): int { if a < b { return b; } return a; }"

// exerciseOf returns an exercise with the entry f whose outcomes are those of its program.
func exerciseOf(source string, width, loops int, ranges ...api.Range) api.Exercise {
	return api.Exercise{Source: source, Entry: "f", Model: true, Bounds: api.Bounds{Width: width, Loops: loops}, Ranges: ranges}
}

// maximum returns the exercise of the document's examples.
func maximum() api.Exercise {
	x := exerciseOf(maxSource, 3, 0, api.Range{Lo: -1, Hi: 1}, api.Range{Lo: 0, Hi: 2})
	x.Entry = "max"
	return x
}

// example returns the exercise of the chapter's example, and the submission.
func example() (api.Exercise, string) {
	return exerciseOf("proc f(p: bool): bool { return p; }", 2, 0, api.Range{Hi: 1}), "proc f(p: bool): bool { return not not p; }"
}

func formula(t *testing.T, x api.Exercise, source string) api.Formula {
	t.Helper()
	f, e := certificate.Formula(x, source)
	if e != api.OK {
		t.Fatal(x, source, e)
	}
	return f
}

// P30.1

func TestExample(t *testing.T) {
	x, source := example()
	want := api.Formula{Variables: 2, Clauses: [][]int{{-1}, {1}}}
	if f := formula(t, x, source); !equal(f, want) {
		t.Error(f)
	}
	// All relevant inputs are wrong; then none is relevant.
	x.Given = "g"
	x.Source += "proc g(p: bool): bool { return p; }"
	want = api.Formula{Variables: 2, Clauses: [][]int{{-1}, {2}}}
	if f := formula(t, x, "proc f(p: bool): bool { return not p; }"); !equal(f, want) {
		t.Error(f)
	}
	x.Ranges[0].Hi = 0
	want = api.Formula{Variables: 2, Clauses: [][]int{{-1}, {1}}}
	if f := formula(t, x, "proc f(p: bool): bool { return not p; }"); !equal(f, want) {
		t.Error(f)
	}
}

// pairs returns programs, each with another one that mostly does the same; together they have all instructions and faults.
func pairs() [][2]string {
	const ints, arrays = "proc f(x: int, y: int): int { ", "proc f(x: int, y: int, a: int[3]): int { "
	return [][2]string{
		{ints + "return x + y; }", ints + "return y + x; }"}, {ints + "return x - y; }", ints + "return -(y - x); }"}, {ints + "return x * y; }", ints + "return y * x; }"}, {ints + "return x / y; }", ints + "if y == -1 { return -x; } return x / y; }"}, {ints + "return x % y; }", ints + "return x - x / y * y; }"}, {ints + "return 0; }", ints + "return 5 * x - 4 * x - x + 999999999; }"},
		{"proc f(x: int, y: int): bool { return x < y; }", "proc f(x: int, y: int): bool { return not (x >= y); }"}, {"proc f(x: int, y: int): bool { return x > y; }", "proc f(x: int, y: int): bool { return not (x <= y); }"}, {"proc f(x: int, y: int): bool { return x == y; }", "proc f(x: int, y: int): bool { return not (x != y); }"}, {"proc f(x: int, y: int): bool { return x < y and y < 2 or x == 1; }", "proc f(x: int, y: int): bool { return x < 2 and (y < x or not (x != 1)); }"},
		{arrays + "return a[x]; }", arrays + "if x == 0 { return a[0]; } a[1] = a[1]; return a[x]; }"}, {arrays + "a[x] = y; return a[0]; }", arrays + "a[x] = x; a[y] = 1; return a[len(a) - 3]; }"}, {"proc f(var x: int, var a: int[2]) { a = [x, a[0]]; }", "proc f(var y: int, var b: int[2]) { b[1] = b[0]; b[0] = y; }"},
		{"record r { n: int, u: bool } proc f(v: r, var w: r) { w = v; }", "record r { n: int, u: bool } proc f(v: r, var w: r) { if v.u != w.u { w.u = v.u; } w.n = v.n; }"},
		{"proc f(x: int): int { var s = 0; for i = 1 to x { s = s + i; } return s; }", "proc f(x: int): int { if x < 0 { return 0; } return x * (x + 1) / 2; }"}, {"proc f(x: int): int { while x > 0 { x = x - 1; } return x; }", "proc f(x: int): int { if x > 0 { return 0; } return x; }"}, {ints + "for i = x to y { for j = i to 2 { if i + j == x { return j; } } } }", ints + "while x < y { x = x + 1; assert x != 1; } return y; }"}, {"proc f(p: bool) { while p {} }", "proc f(p: bool) { assert not p; }"},
		{"proc f(x: int): int { return g(x) + g(x + 1); } proc g(x: int): int { if x < 0 { return -x; } return x; }", "proc g(x: int, var y: int) { y = x; if x >= 0 { return; } y = -y; } proc f(x: int): int { var y = 0; g(x, y); var z = 1; g(x + 1, z); return y + z; }"}, {"proc f(x: int): int { if x > 0 { return 1; } }", "proc f(x: int): int { assert x > 0; return 1; }"}, {"proc f(x: int): int { return h(6 / x); } proc h(x: int): int { assert x != 1; return x; }", "proc f(x: int): int { h(x); return 6 / x; } proc h(x: int) { assert 6 / x != 1; }"},
		{"proc f(): int { return 1; }", "proc f(): int { return 1; }"}, {"proc f() {}", "proc f() { return; assert false; }"}, {"proc f(): int {}", "proc f(): int { var x = 1; while true { x = x + 1; } }"}, {"proc f(x: int) { return; }", "proc f(x: int) { if x == 0 { return; } else { return; } x = 1 / 0; }"},
	}
}

// small returns an exercise with a small range for each scalar.
func small(source string, width, loops int) api.Exercise {
	x := exerciseOf(source, width, loops)
	for i, t := range scalars(x) {
		r := api.Range{Lo: max(-i, -1<<(width-1)), Hi: 1}
		if t.Kind == api.TypeBool {
			r.Lo = 0
		}
		x.Ranges = append(x.Ranges, r)
	}
	return x
}

func TestFormulasOfAllInstructions(t *testing.T) {
	for _, pair := range pairs() {
		for width := api.MinWidth; width <= api.MaxWidth; width++ {
			for _, loops := range []int{0, 1, 3} {
				for _, l := range [][2]string{{pair[0], pair[1]}, {pair[1], pair[0]}, {pair[0], pair[0]}} {
					x := small(l[0], width, loops)
					n, w := built(x, l[1])
					if f := formula(t, x, l[1]); !equal(f, n.translated(w)) {
						t.Error(l, width, loops, f.Variables, n.nodes())
					}
				}
			}
		}
	}
}

func TestFormulasWithConditions(t *testing.T) {
	const source = "proc f(x: int, var y: int, p: bool) { if p { y = x / y; } } proc never(x: int, y: int, p: bool): bool { return 1 / 0 == 0; } proc given(x: int, y: int, p: bool): bool { return 2 / x > y or p; } proc good(x: int, y: int, p: bool, z: int): bool { assert x != z; while p { return z == y; } return z * y == x; }"
	for _, c := range []struct {
		accepts, given string
		model          bool
	}{{"", "", true}, {"", "given", true}, {"good", "", false}, {"good", "given", false}, {"good", "", true}, {"good", "given", true}, {"good", "never", true}, {"", "never", true}} {
		for _, submission := range []string{source, "proc f(x: int, var y: int, p: bool) { if p { y = y / x; } }", "proc f(x: int, var y: int, p: bool) { y = x; }"} {
			x := small(source, 3, 2)
			x.Accepts, x.Given, x.Model = c.accepts, c.given, c.model
			n, w := built(x, submission)
			if f := formula(t, x, submission); !equal(f, n.translated(w)) {
				t.Error(c, submission, f.Variables, n.nodes())
			}
			if c.given == "never" && w != 0 {
				t.Error(c, submission, w)
			}
		}
	}
}

// grown returns a program whose circuit has a gate for almost each bit of what it computes.
func grown(products, sums, negations, tests int) string {
	s := "proc f(x: int, y: int, p: bool): int { "
	for l := range slices.Chunk(make([]string, products), 50) {
		s += "x = x" + strings.Repeat(" * y", len(l)) + "; "
	}
	return s + strings.Repeat("x = x + y; ", sums) + strings.Repeat("x = -x; ", negations) + strings.Repeat("if x < y { x = y; } ", tests) + "return x; }"
}

func TestLargestCircuit(t *testing.T) {
	for _, c := range []struct {
		source string
		nodes  int
	}{{grown(278, 5, 1, 1), api.MaxVariables}, {grown(275, 15, 0, 2), api.MaxVariables}, {grown(278, 0, 3, 4), api.MaxVariables + 1}, {grown(275, 14, 9, 0), api.MaxVariables + 1}, {grown(290, 0, 0, 0), 0}, {grown(400, 0, 0, 0), 0}} {
		x := exerciseOf(c.source, 8, 0, api.Range{}, api.Range{}, api.Range{})
		n, w := built(x, c.source)
		if n.nodes() != c.nodes && (c.nodes > 0 || n.nodes() <= api.MaxVariables) {
			t.Fatal(n.nodes())
		}
		f, e := certificate.Formula(x, c.source)
		if c.nodes == api.MaxVariables {
			if e != api.OK || !equal(f, n.translated(w)) {
				t.Error(f.Variables, e)
			}
			continue
		}
		if e != api.ErrTooLarge || !equal(f, api.Formula{}) {
			t.Error(f.Variables, e)
		}
		if s, e := certificate.Make(x, c.source, [][]int{nil}); s != "" || e != api.ErrTooLarge {
			t.Error(s, e)
		}
		if certificate.Check(x, c.source, "certificate "+digits(exercise.Digest(x, c.source))+" 0 0\n0\n") {
			t.Error(c.nodes)
		}
	}
}

// P30.1, P30.2: errors in their order.

func TestErrorsOfFormulaAndMake(t *testing.T) {
	// Each level has 40 scalars on the stack when the next one begins.
	const header = "proc g(a: int[8], b: int[8], c: int[8], d: int[8], e: int[8], x: int): int { return x; } proc f(a: int[8]): int { "
	deep := header + "return " + strings.Repeat("g(a,a,a,a,a,", 26) + "1" + strings.Repeat(")", 26) + "; }"
	zeros := make([]api.Range, 8)
	wide, flat := exerciseOf(deep, 4, 0, zeros...), exerciseOf(header+"return 1; }", 4, 0, zeros...)
	broken := maximum()
	broken.Bounds.Width = 9
	costly := maximum()
	costly.Bounds.Loops = 8
	for i, c := range []struct {
		x      api.Exercise
		source string
		e      api.Errno
	}{
		{maximum(), maxSource, api.OK}, {broken, "proc", api.ErrRange}, {api.Exercise{}, maxSource, api.ErrRange}, {api.Exercise{Bounds: api.Bounds{Width: 2}}, maxSource, api.ErrName}, {exerciseOf("proc f(", 3, 0), maxSource, api.ErrSyntax}, {exerciseOf("proc f() {}", 3, 0, api.Range{}), "proc f() {}", api.ErrArg}, {exerciseOf("proc f(x) { x = 1; }", 3, 0, api.Range{}), "proc f(x: int) {}", api.ErrType}, {exerciseOf(strings.Repeat(" ", 4097), 3, 0), maxSource, api.ErrTooLarge},
		{maximum(), "proc max(", api.ErrSyntax}, {maximum(), "proc min(a: int, b: int): int { return a; }", api.ErrName}, {maximum(), "proc max(a: int, b: bool): int { return a; }", api.ErrType}, {maximum(), strings.Repeat(" ", 4097), api.ErrTooLarge}, {costly, "proc max(a: int, b: int): int { while a < b { while a < b { while a < b { while a < b { a = a + 1; } } } } return a; }", api.ErrTooLarge},
		{wide, header + "return 1; }", api.ErrTooLarge}, {flat, deep, api.ErrTooLarge}, {wide, deep, api.ErrTooLarge}, {wide, "proc f(a: int[7]): int { return 1; }", api.ErrType}, {flat, header + "return a[0]; }", api.OK},
	} {
		f, e := certificate.Formula(c.x, c.source)
		if e != c.e || e != api.OK && !equal(f, api.Formula{}) {
			t.Error(i, f, e)
		}
		want := c.e
		if want == api.OK {
			want = api.ErrState
		}
		for _, p := range [][][]int{nil, {{1}}, {{0}, nil}} {
			if s, e := certificate.Make(c.x, c.source, p); s != "" || e != want {
				t.Error(i, p, s, e)
			}
		}
	}
}

// P30.1

func TestInput(t *testing.T) {
	x := exerciseOf("record r { n: int, u: bool } proc f(p: bool, v: r, a: int[2]) {}", 3, 0, api.Range{Hi: 1}, api.Range{}, api.Range{}, api.Range{Lo: 1, Hi: 2}, api.Range{})
	for _, c := range []struct {
		bits string // of p, n, u, and both elements, the least significant one first
		want []int
	}{
		{"0 000 0 000 000", []int{0, 0, 0, 0, 0}}, {"1 100 1 010 001", []int{1, 1, 1, 2, -4}}, {"0 111 1 110 011", []int{0, -1, 1, 3, -2}}, {"1 101 0 001 111", []int{1, -3, 0, -4, -1}},
	} {
		for _, first := range []int{1, -1} {
			for _, more := range [][]int{nil, {13, -14}, {0, 7, 7}, {math.MinInt}} {
				model := []int{first}
				for _, bit := range strings.ReplaceAll(c.bits, " ", "") {
					v := len(model) + 1
					if bit == '0' {
						v = -v
					}
					model = append(model, v)
				}
				model = append(model, more...)
				kept := slices.Clone(model)
				if l, e := certificate.Input(x, model); !slices.Equal(l, c.want) || e != api.OK || !slices.Equal(model, kept) {
					t.Error(model, l, e)
				}
			}
		}
	}
	good := []int{-1, 2, -3, 4, -5, 6, 7, 8, -9, 10, 11, 12}
	if l, e := certificate.Input(x, good); len(l) != 5 || e != api.OK {
		t.Error(l, e)
	}
	for n := range good {
		if l, e := certificate.Input(x, good[:n]); len(l) > 0 || e != api.ErrArg {
			t.Error(n, l, e)
		}
		for _, literal := range []int{0, n, n + 2, -n, -n - 2, math.MinInt, math.MaxInt} {
			wrong := slices.Clone(good)
			wrong[n] = literal
			if l, e := certificate.Input(x, wrong); len(l) > 0 || e != api.ErrArg {
				t.Error(wrong, l, e)
			}
		}
	}
	empty := exerciseOf("proc f() {}", 3, 0)
	if l, e := certificate.Input(empty, []int{1}); len(l) > 0 || e != api.OK {
		t.Error(l, e)
	}
	if l, e := certificate.Input(empty, nil); len(l) > 0 || e != api.ErrArg {
		t.Error(l, e)
	}
	x.Entry = "g"
	if l, e := certificate.Input(x, nil); len(l) > 0 || e != api.ErrName {
		t.Error(l, e)
	}
}

// digits returns 16 hexadecimal digits.
func digits(digest uint64) string {
	s := strconv.FormatUint(digest, 16)
	return strings.Repeat("0", 16-len(s)) + s
}

// P30.2

func TestMakeAndParse(t *testing.T) {
	x, source := example()
	for _, p := range [][][]int{{nil}, {{1}, nil}, {{-1}, nil, {1, -2}, nil}} {
		text, e := certificate.Make(x, source, p)
		want := "certificate " + digits(exercise.Digest(x, source)) + " 2 2\n" + proof.Format(p)
		if text != want || e != api.OK {
			t.Errorf("%v %q %v", p, text, e)
		}
		c, e := certificate.Parse(text)
		if c.Digest != exercise.Digest(x, source) || c.Variables != 2 || c.Clauses != 2 || !slices.EqualFunc(c.Proof, p, slices.Equal) || e != api.OK {
			t.Error(text, c, e)
		}
	}
	for _, p := range [][][]int{nil, {}, {{1}}, {nil, {1}}, {{3}, nil}, {{0}, nil}, {{2, 1}, nil}, {{1, 1}, nil}, {{math.MinInt}, nil}} {
		if text, e := certificate.Make(x, source, p); text != "" || e != api.ErrState {
			t.Error(p, text, e)
		}
	}
	if text, e := certificate.Make(x, "proc f(p: bool): bool { return not p; }", [][]int{nil}); text != "" || e != api.ErrState {
		t.Error(text, e)
	}
}

func TestParse(t *testing.T) {
	for text, want := range map[string]api.Certificate{
		"certificate 0000000000000000 0 0\n":                          {},
		"certificate 00000000000000af 1 2\n0\n":                       {Digest: 0xaf, Variables: 1, Clauses: 2, Proof: [][]int{nil}},
		"certificate ffffffffffffffff 999999999 999999999\n1 0\n0\n":  {Digest: math.MaxUint64, Variables: 999999999, Clauses: 999999999, Proof: [][]int{{1}, nil}},
		"certificate 0123456789abcdef 65536 0\n-3 65536 0\n0\n-1 0\n": {Digest: 0x123456789abcdef, Variables: 65536, Proof: [][]int{{-3, 65536}, nil, {-1}}},
	} {
		c, e := certificate.Parse(text)
		if c.Digest != want.Digest || c.Variables != want.Variables || c.Clauses != want.Clauses || !slices.EqualFunc(c.Proof, want.Proof, slices.Equal) || e != api.OK {
			t.Errorf("%q %v %v", text, c, e)
		}
	}
	for _, text := range wrongTexts() {
		if c, e := certificate.Parse(text); c.Digest != 0 || c.Variables != 0 || c.Clauses != 0 || len(c.Proof) > 0 || e != api.ErrSyntax {
			t.Errorf("%q %v %v", text, c, e)
		}
	}
}

// wrongTexts returns texts that are not those of certificates.
func wrongTexts() []string {
	l := []string{"", "\n", "0\n", "certificate\n", "certificate 0000000000000000 1 2", "\ncertificate 0000000000000000 1 2\n0\n", "certificate 0000000000000000 1 2\r\n0\n"}
	for _, first := range []string{"0000000000000000 1 2", "", " 0000000000000000 1 2", "certificate 0000000000000000 1", "certificate 0000000000000000 1 2 3", "certificate 0000000000000000 1 2 ", " certificate 0000000000000000 1 2", "certificate  0000000000000000 1 2", "certificate 0000000000000000  1 2", "certificate 0000000000000000 1  2", "certificate 0000000000000000\t1 2", "Certificate 0000000000000000 1 2", "certificat 0000000000000000 1 2", "certificates 0000000000000000 1 2"} {
		l = append(l, first+"\n0\n")
	}
	for _, digest := range []string{"", "0", "000000000000000", "00000000000000000", "10000000000000000", "000000000000000A", "00000000000000AF", "000000000000000g", "0x00000000000000", "+000000000000000", "-000000000000000", "0000_0000_0000_0", "00000000 0000000", "\xff000000000000000", "fffffffffffffffff"} {
		l = append(l, "certificate "+digest+" 1 2\n0\n")
	}
	for _, number := range []string{"", "-", "-1", "+1", "-0", "00", "01", "007", "1000000000", "0000000001", "9999999999", "99999999999999999999", "18446744073709551617", "1.0", "1e3", "0x1", "1_0", "x", "a", "１"} {
		l = append(l, "certificate 0000000000000000 "+number+" 2\n0\n", "certificate 0000000000000000 1 "+number+"\n0\n")
	}
	for _, steps := range []string{"0", "1 0", "\n", "0\n\n", "1\n", "0 1 0\n", "2 1 0\n", "1 1 0\n", "65537 0\n", "01 0\n", " 0\n", "0 \n", "0\ncertificate 0000000000000000 1 2\n", "0\nx"} {
		l = append(l, "certificate 0000000000000000 1 2\n"+steps)
	}
	return l
}

// P30.3

func TestCheck(t *testing.T) {
	x := maximum()
	const source = "proc max(a: int, b: int): int { if a <= b { return b; } return a; }"
	f := formula(t, x, source)
	a, _ := solver.Solve(f, nil, api.MaxConflicts)
	text, e := certificate.Make(x, source, a.Proof)
	if e != api.OK || a.Kind != api.AnswerProof {
		t.Fatal(a.Kind, e)
	}
	first, steps, _ := strings.Cut(text, "\n")
	digest := digits(exercise.Digest(x, source))
	numbers := " " + strconv.Itoa(f.Variables) + " " + strconv.Itoa(len(f.Clauses)) + "\n"
	if first+"\n" != "certificate "+digest+numbers {
		t.Fatal(first)
	}
	wider := " " + strconv.Itoa(f.Variables+1) + " " + strconv.Itoa(len(f.Clauses)) + "\n"
	more := " " + strconv.Itoa(f.Variables) + " " + strconv.Itoa(len(f.Clauses)+1) + "\n"
	large := strconv.Itoa(f.Variables + 1)
	for s, want := range map[string]bool{
		text: true, text + steps: true, "certificate " + digest + numbers + strings.TrimSuffix(steps, "0\n") + "-1 0\n0\n": true, "certificate " + digest + numbers + "-1 0\n" + steps: true,
		text + "-1 0\n": false, text + large + " 0\n0\n": false, text + " ": false, text + "\n": false, text[:len(text)-1]: false, strings.TrimSuffix(text, "0\n"): false, first: false, first + "\n": false, first + "\n0\n": false, steps: false, "": false, " " + text: false, "\n" + text: false,
		"certificate " + digest + wider + steps: false, "certificate " + digest + more + steps: false, "certificate " + strings.ToUpper(digest) + numbers + steps: false, "certificate " + digits(exercise.Digest(x, source)+1) + numbers + steps: false, "certificate " + digits(exercise.Digest(x, maxSource)) + numbers + steps: false, "certificate 0" + digest + numbers + steps: false,
	} {
		if certificate.Check(x, source, s) != want {
			t.Errorf("%.80q", s)
		}
	}
	other, narrow := x, x
	other.Bounds.Loops = 1
	narrow.Ranges = []api.Range{{Lo: 0, Hi: 1}, {Lo: 0, Hi: 2}}
	broken := x
	broken.Ranges = nil
	for i, c := range []struct {
		x      api.Exercise
		source string
	}{{other, source}, {narrow, source}, {broken, source}, {x, maxSource}, {x, source + "\n"}, {x, "proc max(a: int, b: int): int { if a > b { return b; } return a; }"}, {x, "proc max("}, {x, ""}} {
		// The text is that for another exercise or submission, or has at least the digest of this one.
		if certificate.Check(c.x, c.source, text) || certificate.Check(c.x, c.source, "certificate "+digits(exercise.Digest(c.x, c.source))+numbers+"0\n") {
			t.Error(i)
		}
	}
	// Without loops their bound matters for the digest only.
	if s, e := certificate.Make(other, source, a.Proof); e != api.OK || s == text || !certificate.Check(other, source, s) {
		t.Error(e)
	}
}

// P30.4

func TestModelsOfAFormula(t *testing.T) {
	x := maximum()
	const source = "proc max(a: int, b: int): int { if a > b { return b; } return a; }"
	f := formula(t, x, source)
	task, _ := exercise.New(x)
	s, _, _ := task.Submit(source)
	found := 0
	for a := -4; a < 4; a++ {
		for b := -4; b < 4; b++ {
			var literals []int
			for i := range 6 {
				bit := a >> i & 1
				if i >= 3 {
					bit = b >> (i - 3) & 1
				}
				literals = append(literals, (i+2)*(2*bit-1))
			}
			answer, e := solver.Solve(f, literals, api.MaxConflicts)
			wrong := isWrong(s, []int{a, b})
			if e != api.OK || (answer.Kind == api.AnswerModel) != wrong {
				t.Error(a, b, answer.Kind, e)
			}
			if wrong {
				found++
				if l, e := certificate.Input(x, answer.Model); !slices.Equal(l, []int{a, b}) || e != api.OK {
					t.Error(a, b, l, e)
				}
			}
		}
	}
	if found != 7 {
		t.Error(found)
	}
}

func TestArgumentsAreLeftAlone(t *testing.T) {
	x, source := example()
	p := [][]int{{1}, nil}
	for range 2 {
		f := formula(t, x, source)
		text, e := certificate.Make(x, source, p)
		c, g := certificate.Parse(text)
		if e != api.OK || g != api.OK || !certificate.Check(x, source, text) || len(f.Clauses) != 2 || x.Ranges[0].Hi != 1 || !slices.EqualFunc(p, [][]int{{1}, nil}, slices.Equal) {
			t.Fatal(f, text, c, p)
		}
		for _, l := range append(f.Clauses, c.Proof...) {
			for i := range l {
				l[i] = 7
			}
			_ = append(l, 8)
		}
	}
}
