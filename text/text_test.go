package text_test

import (
	"bytes"
	"math"
	"math/rand"
	"slices"
	"strings"
	"testing"

	"assessor/api"
	"assessor/text"
)

type edits = []api.Replacement

func put(at, end int, new string) api.Replacement {
	return api.Replacement{At: at, End: end, Text: new}
}

// P1.1

func TestLines(t *testing.T) {
	for _, x := range []struct {
		s    string
		want []int
	}{
		{"", []int{0}},
		{"ab", []int{0}},
		{"ab\ncd", []int{0, 3}},
		{"ab\n", []int{0, 3}},
		{"\n", []int{0, 1}},
		{"\n\n", []int{0, 1, 2}},
		{"a\rb\r\nc", []int{0, 5}},
		{"\xff\n\x00\n\xe2\x80\xa8", []int{0, 2, 4}},
	} {
		if l := text.Lines(x.s); !slices.Equal(l, x.want) {
			t.Errorf("%q: %v", x.s, l)
		}
	}
}

func TestPositions(t *testing.T) {
	for _, x := range []struct {
		s                string
		at, line, column int
	}{
		{"", 0, 1, 1},
		{"ab\ncd", 0, 1, 1},
		{"ab\ncd", 2, 1, 3},
		{"ab\ncd", 3, 2, 1},
		{"ab\ncd", 4, 2, 2},
		{"ab\ncd", 5, 2, 3},
		{"\n", 0, 1, 1},
		{"\n", 1, 2, 1},
		{"\n\n", 1, 2, 1},
		{"a\r\nb", 2, 1, 3},
		{"\xc3\xa4b", 2, 1, 3},
	} {
		if line, column := text.Position(x.s, x.at); line != x.line || column != x.column {
			t.Errorf("%q: %d is at %d, %d", x.s, x.at, line, column)
		}
		if at, ok := text.Offset(x.s, x.line, x.column); at != x.at || !ok {
			t.Errorf("%q: %d, %d is at %d %v", x.s, x.line, x.column, at, ok)
		}
	}
}

func TestNoPosition(t *testing.T) {
	for _, at := range []int{-1, 3, math.MinInt, math.MaxInt} {
		if line, column := text.Position("a\n", at); line != 0 || column != 0 {
			t.Errorf("%d is at %d, %d", at, line, column)
		}
	}
	for _, x := range [][2]int{{0, 1}, {1, 0}, {1, 4}, {2, 2}, {3, 1}, {-1, 1}, {1, -1}, {1, math.MinInt}, {math.MinInt, 1}, {2, math.MaxInt}, {math.MaxInt, 1}} {
		if at, ok := text.Offset("ab\n", x[0], x[1]); at != 0 || ok {
			t.Errorf("%v is at %d %v", x, at, ok)
		}
	}
}

func TestLine(t *testing.T) {
	for _, x := range []struct {
		s    string
		line int
		want string
	}{
		{"ab\ncd", 1, "ab"},
		{"ab\ncd", 2, "cd"},
		{"ab\r\ncd\r\n", 1, "ab"},
		{"ab\r\ncd\r\n", 2, "cd"},
		{"ab\r\ncd\r\n", 3, ""},
		{"ab\r", 1, "ab\r"},
		{"x\nab\r", 2, "ab\r"},
		{"ab\r\r\n", 1, "ab\r"},
		{"\ra\rb\n", 1, "\ra\rb"},
		{"\r\n", 1, ""},
		{"\n\n", 2, ""},
		{"", 1, ""},
		{"ab", 0, ""},
		{"ab", 2, ""},
		{"ab", -1, ""},
		{"ab", math.MaxInt, ""},
		{"ab", math.MinInt, ""},
	} {
		if l := text.Line(x.s, x.line); l != x.want {
			t.Errorf("%q: line %d is %q", x.s, x.line, l)
		}
	}
}

// P1.2 and P1.4

func TestApplyAndInvert(t *testing.T) {
	full := strings.Repeat("a", api.MaxText)
	for i, x := range []struct {
		s    string
		l    edits
		want string
		back edits
	}{
		{"ab\ncd", edits{put(1, 2, "xy"), put(3, 3, "z")}, "axy\nzcd", edits{put(1, 3, "b"), put(4, 5, "")}},
		{"abc", nil, "abc", nil},
		{"", edits{put(0, 0, "")}, "", edits{put(0, 0, "")}},
		{"abc", edits{put(0, 3, "")}, "", edits{put(0, 0, "abc")}},
		{"abc", edits{put(3, 3, "d")}, "abcd", edits{put(3, 4, "")}},
		{"abc", edits{put(1, 1, "x"), put(1, 1, "y"), put(1, 2, "z"), put(2, 2, "w")}, "axyzwc", edits{put(1, 2, ""), put(2, 3, ""), put(3, 4, "b"), put(4, 5, "")}},
		{"abcdef", edits{put(0, 2, ""), put(2, 3, "XYZ"), put(5, 6, "f")}, "XYZdef", edits{put(0, 0, "ab"), put(0, 3, "c"), put(5, 6, "f")}},
		{full, nil, full, nil},
		{full, edits{put(0, 0, "b"), put(5, 6, "")}, "b" + full[1:], edits{put(0, 1, ""), put(6, 6, "a")}},
		{full + "b", edits{put(0, 1, "")}, full[1:] + "b", edits{put(0, 0, "a")}},
	} {
		if s, e := text.Apply(x.s, x.l...); s != x.want || e != api.OK {
			t.Errorf("%d: %q %v", i, s, e)
		}
		if back, e := text.Invert(x.s, x.l...); !slices.Equal(back, x.back) || e != api.OK {
			t.Errorf("%d: %v %v", i, back, e)
		}
	}
}

func TestApplyAndInvertErrors(t *testing.T) {
	full := strings.Repeat("a", api.MaxText)
	for i, x := range []struct {
		s    string
		l    edits
		want api.Errno
	}{
		{"abc", edits{put(-1, 2, "")}, api.ErrRange},
		{"abc", edits{put(math.MinInt, math.MaxInt, "")}, api.ErrRange},
		{"abc", edits{put(2, 1, "")}, api.ErrRange},
		{"abc", edits{put(0, -1, "")}, api.ErrRange},
		{"abc", edits{put(0, 4, "")}, api.ErrRange},
		{"abc", edits{put(4, 4, "")}, api.ErrRange},
		{"abc", edits{put(1, 3, ""), put(2, 3, "")}, api.ErrArg},
		{"abc", edits{put(2, 2, ""), put(1, 1, "")}, api.ErrArg},
		{"abc", edits{put(2, 2, ""), put(1, 4, "")}, api.ErrRange},
		{"abc", edits{put(2, 2, ""), put(1, 1, ""), put(0, 4, "")}, api.ErrArg},
		{"abc", edits{put(0, 4, ""), put(2, 2, ""), put(1, 1, "")}, api.ErrRange},
		{full, edits{put(0, 0, "a")}, api.ErrTooLarge},
		{full + "a", nil, api.ErrTooLarge},
		{full, edits{put(0, 0, "a"), put(1, 0, "")}, api.ErrRange},
		{full, edits{put(1, 1, "a"), put(0, 0, "")}, api.ErrArg},
	} {
		if s, e := text.Apply(x.s, x.l...); s != "" || e != x.want {
			t.Errorf("%d: %q %v", i, s, e)
		}
		if back, e := text.Invert(x.s, x.l...); len(back) != 0 || e != x.want {
			t.Errorf("%d: %v %v", i, back, e)
		}
	}
}

// P1.3

func TestMove(t *testing.T) {
	for i, x := range []struct {
		l    edits
		at   int
		want int
	}{
		{nil, 0, 0},
		{nil, api.MaxText, api.MaxText},
		{edits{put(1, 2, "xy"), put(3, 3, "z")}, 3, 5},
		{edits{put(2, 5, "xy")}, 1, 1},
		{edits{put(2, 5, "xy")}, 2, 2},
		{edits{put(2, 5, "xy")}, 3, 3},
		{edits{put(2, 5, "xy")}, 4, 4},
		{edits{put(2, 5, "xy")}, 5, 4},
		{edits{put(2, 5, "")}, 4, 2},
		{edits{put(2, 5, "uvwxyz")}, 4, 4},
		{edits{put(2, 5, "uvwxyz")}, 5, 8},
		{edits{put(2, 2, "x")}, 1, 1},
		{edits{put(2, 2, "x")}, 2, 3},
		{edits{put(2, 2, "x"), put(2, 2, "yz"), put(2, 4, "u")}, 2, 5},
		{edits{put(2, 2, "x"), put(2, 2, "yz"), put(2, 4, "u")}, 3, 6},
		{edits{put(0, 2, ""), put(3, 5, "abc")}, 4, 2},
		{edits{put(0, 2, ""), put(3, 5, "abc")}, 5, 4},
		{edits{put(0, api.MaxText, "")}, api.MaxText, 0},
		{edits{put(0, api.MaxText, "ab")}, api.MaxText - 1, 2},
		{edits{put(7, 9, "x")}, 3, 3},
	} {
		if at := text.Move(x.l, x.at); at != x.want {
			t.Errorf("%d: %d", i, at)
		}
	}
}

func TestNoMove(t *testing.T) {
	for _, at := range []int{-1, api.MaxText + 1, math.MinInt, math.MaxInt} {
		if n := text.Move(nil, at); n != -1 {
			t.Errorf("%d moves to %d", at, n)
		}
	}
	for i, l := range []edits{
		{put(-1, 0, "")},
		{put(2, 1, "")},
		{put(0, api.MaxText+1, "")},
		{put(api.MaxText+1, api.MaxText+1, "")},
		{put(5, 7, ""), put(6, 8, "")},
		{put(5, 5, ""), put(4, 4, "")},
		{put(math.MinInt, math.MaxInt, "")},
	} {
		if n := text.Move(l, 0); n != -1 {
			t.Errorf("%d: %d", i, n)
		}
	}
}

// P1.5

func TestDifference(t *testing.T) {
	for _, x := range []struct {
		a, b string
		want api.Replacement
	}{
		{"", "", api.Replacement{}},
		{"abc", "abc", api.Replacement{At: 3, End: 3}},
		{"abc", "aXc", api.Replacement{At: 1, End: 2, Text: "X"}},
		{"abc", "", api.Replacement{At: 0, End: 3}},
		{"", "abc", api.Replacement{Text: "abc"}},
		{"aa", "aaa", api.Replacement{At: 2, End: 2, Text: "a"}},
		{"aaa", "aa", api.Replacement{At: 2, End: 3}},
		{"abcab", "ab", api.Replacement{At: 2, End: 5}},
		{"ab", "abcab", api.Replacement{At: 2, End: 2, Text: "cab"}},
		{"xaby", "xy", api.Replacement{At: 1, End: 3}},
		{"abc", "xbc", api.Replacement{At: 0, End: 1, Text: "x"}},
		{"abc", "abx", api.Replacement{At: 2, End: 3, Text: "x"}},
		{"\xc3\xa4", "\xc3\xb6", api.Replacement{At: 1, End: 2, Text: "\xb6"}},
	} {
		if d := text.Difference(x.a, x.b); d != x.want {
			t.Errorf("%q %q: %v", x.a, x.b, d)
		}
	}
}

// P1.6

func randomText(r *rand.Rand, most int) string {
	b := make([]byte, r.Intn(most+1))
	for i := range b {
		b[i] = "ab\n\r"[r.Intn(4)]
	}
	return string(b)
}

func randomEdits(r *rand.Rand, s string) edits {
	l := make(edits, r.Intn(5))
	ends := make([]int, 2*len(l))
	for i := range ends {
		ends[i] = r.Intn(len(s) + 1)
	}
	slices.Sort(ends)
	for i := range l {
		l[i] = put(ends[2*i], ends[2*i+1], randomText(r, 4))
	}
	return l
}

func TestOffsetInvertsPosition(t *testing.T) {
	r := rand.New(rand.NewSource(1))
	for range 500 {
		s := randomText(r, 12)
		seen := map[[2]int]bool{}
		for at := 0; at <= len(s); at++ {
			line, column := text.Position(s, at)
			seen[[2]int{line, column}] = true
			if back, ok := text.Offset(s, line, column); back != at || !ok {
				t.Fatalf("%q: %d is at %d, %d, which is %d %v", s, at, line, column, back, ok)
			}
		}
		for line := -1; line <= len(s)+2; line++ {
			for column := -1; column <= len(s)+2; column++ {
				if _, ok := text.Offset(s, line, column); ok != seen[[2]int{line, column}] {
					t.Fatalf("%q: %d, %d %v", s, line, column, ok)
				}
			}
		}
	}
}

func TestLinesAreTheText(t *testing.T) {
	r := rand.New(rand.NewSource(2))
	for range 500 {
		s := randomText(r, 12)
		lines := strings.Split(s, "\n")
		if starts := text.Lines(s); len(starts) != len(lines) {
			t.Fatalf("%q: %v", s, starts)
		}
		for i, want := range lines {
			if i < len(lines)-1 {
				want = strings.TrimSuffix(want, "\r")
			}
			if l := text.Line(s, i+1); l != want {
				t.Fatalf("%q: line %d is %q", s, i+1, l)
			}
		}
	}
}

func TestReplacementsAreInvertedAndMove(t *testing.T) {
	r := rand.New(rand.NewSource(3))
	for range 2000 {
		s := randomText(r, 12)
		l := randomEdits(r, s)
		after, e := text.Apply(s, l...)
		back, f := text.Invert(s, l...)
		if e != api.OK || f != api.OK || len(back) != len(l) {
			t.Fatalf("%q %v: %v %v", s, l, e, f)
		}
		if old, e := text.Apply(after, back...); old != s || e != api.OK {
			t.Fatalf("%q %v: %q %v", s, l, old, e)
		}
		for at := range len(s) {
			outside := !slices.ContainsFunc(l, func(x api.Replacement) bool { return x.At <= at && at < x.End })
			if to := text.Move(l, at); outside && (to < 0 || to >= len(after) || after[to] != s[at]) {
				t.Fatalf("%q %v: %d moves to %d", s, l, at, to)
			}
		}
		if to := text.Move(l, len(s)); to != len(after) {
			t.Fatalf("%q %v: the end moves to %d", s, l, to)
		}
	}
}

func TestDifferenceTurnsOneTextIntoTheOther(t *testing.T) {
	r := rand.New(rand.NewSource(4))
	for range 2000 {
		a, b := randomText(r, 8), randomText(r, 8)
		d := text.Difference(a, b)
		if s, e := text.Apply(a, d); s != b || e != api.OK {
			t.Fatalf("%q %q: %v", a, b, d)
		}
		old := a[d.At:d.End]
		if old != "" && d.Text != "" && (old[0] == d.Text[0] || old[len(old)-1] == d.Text[len(d.Text)-1]) {
			t.Fatalf("%q %q: %v is not the shortest", a, b, d)
		}
		if a[:d.At] != b[:d.At] || d.At < min(len(a), len(b)) && a[d.At] == b[d.At] {
			t.Fatalf("%q %q: %v does not begin behind the common beginning", a, b, d)
		}
	}
}

func TestArgumentsAreNotModified(t *testing.T) {
	l := edits{put(1, 2, "xy"), put(3, 3, "z")}
	old := slices.Clone(l)
	text.Apply("ab\ncd", l...)
	text.Move(l, 3)
	back, _ := text.Invert("ab\ncd", l...)
	back[0].Text = "changed"
	if !slices.Equal(l, old) {
		t.Error(l)
	}
	starts := text.Lines("a\nb")
	starts[1] = 9
	if l := text.Lines("a\nb"); !slices.Equal(l, []int{0, 2}) {
		t.Error(l)
	}
}

func FuzzText(f *testing.F) {
	f.Add("ab\ncd", 1, 2, "xy", 3)
	f.Add("", -1, 0, "", 0)
	f.Add("a", math.MinInt, math.MaxInt, "b", math.MaxInt)
	f.Fuzz(func(t *testing.T, s string, at, end int, new string, n int) {
		r := put(at, end, new)
		after, e := text.Apply(s, r)
		if e == api.OK && !bytes.Equal([]byte(after), slices.Concat([]byte(s[:at]), []byte(new), []byte(s[end:]))) {
			t.Errorf("%q", after)
		}
		text.Move(edits{r, r}, n)
		text.Line(s, n)
		text.Offset(s, at, end)
	})
}
