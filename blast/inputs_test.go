package blast_test

import (
	"math"
	"slices"
	"testing"

	"assessor/api"
	"assessor/bitvec"
	"assessor/blast"
)

const (
	number = api.SortInt
	truth  = api.SortBool
)

func equalWords(a, b [][]int) bool { return slices.EqualFunc(a, b, slices.Equal[[]int]) }

// P25.1

func TestWords(t *testing.T) {
	for i, x := range []struct {
		width int
		sorts []int
		want  [][]int
		bits  int
	}{
		{3, []int{truth, number}, [][]int{{2}, {4, 6, 8}}, 4}, {2, nil, nil, 0}, {8, []int{}, nil, 0}, {2, []int{number}, [][]int{{2, 4}}, 2}, {8, []int{number}, [][]int{{2, 4, 6, 8, 10, 12, 14, 16}}, 8}, {8, []int{truth}, [][]int{{2}}, 1},
		{2, []int{number, truth, number, truth, truth}, [][]int{{2, 4}, {6}, {8, 10}, {12}, {14}}, 7},
	} {
		if l, n, e := blast.Words(x.width, x.sorts); !equalWords(l, x.want) || n != x.bits || e != api.OK {
			t.Error(i, l, n, e)
		}
	}
	l, n, e := blast.Words(8, make([]int, api.MaxScalars))
	if len(l) != api.MaxScalars || n != 8*api.MaxScalars || e != api.OK || !slices.Equal(l[api.MaxScalars-1], []int{370, 372, 374, 376, 378, 380, 382, 384}) {
		t.Error(l, n, e)
	}
	for i, x := range wrongSorts() {
		if l, n, e := blast.Words(x.width, x.sorts); len(l) != 0 || n != 0 || e != api.ErrArg {
			t.Error(i, l, n, e)
		}
	}
}

// typed is a width and sorts.
type typed struct {
	width int
	sorts []int
}

// wrongSorts returns widths and sorts, one of which is none, or too many sorts.
func wrongSorts() []typed {
	l := []typed{{3, []int{2}}, {3, []int{-1}}, {3, []int{number, truth, 2}}, {3, []int{math.MinInt, truth}}, {3, []int{math.MaxInt}}, {3, make([]int, api.MaxScalars+1)}, {3, slices.Repeat([]int{truth}, api.MaxScalars+1)}}
	for _, width := range []int{1, 0, -1, 9, 64, math.MinInt, math.MaxInt} {
		l = append(l, typed{width, []int{number}}, typed{width, []int{truth}}, typed{width, nil})
	}
	return l
}

func TestBits(t *testing.T) {
	for i, x := range []struct {
		width        int
		sorts, input []int
		want         []int
	}{
		{3, []int{truth, number}, []int{1, -3}, []int{1, 1, 0, 1}}, {3, nil, nil, nil}, {2, []int{number}, []int{-2}, []int{0, 1}}, {2, []int{number}, []int{1}, []int{1, 0}}, {2, []int{number}, []int{-1}, []int{1, 1}}, {8, []int{number}, []int{-128}, []int{0, 0, 0, 0, 0, 0, 0, 1}}, {8, []int{number}, []int{127}, []int{1, 1, 1, 1, 1, 1, 1, 0}}, {8, []int{number}, []int{6}, []int{0, 1, 1, 0, 0, 0, 0, 0}},
		{2, []int{truth, number, truth, number}, []int{0, 1, 1, -2}, []int{0, 1, 0, 1, 0, 1}},
	} {
		l, e := blast.Bits(x.width, x.sorts, x.input)
		if !slices.EqualFunc(l, x.want, func(is bool, n int) bool { return is == (n == 1) }) || e != api.OK {
			t.Error(i, l, e)
		}
	}
	for i, x := range wrongSorts() {
		if l, e := blast.Bits(x.width, x.sorts, make([]int, len(x.sorts))); len(l) != 0 || e != api.ErrArg {
			t.Error(i, l, e)
		}
	}
	for i, x := range []struct {
		width        int
		sorts, input []int
		want         api.Errno
	}{
		{3, []int{number}, nil, api.ErrArg}, {3, []int{number}, []int{1, 1}, api.ErrArg}, {3, nil, []int{1}, api.ErrArg}, {3, []int{truth, number}, []int{1}, api.ErrArg},
		// What is not in its range comes behind what is none, or too much.
		{3, []int{number}, []int{4, 4}, api.ErrArg}, {3, []int{number, 2}, []int{4, 0}, api.ErrArg}, {1, []int{number}, []int{4}, api.ErrArg},
		{3, []int{number}, []int{4}, api.ErrRange}, {3, []int{number}, []int{-5}, api.ErrRange}, {2, []int{number}, []int{2}, api.ErrRange}, {2, []int{number}, []int{-3}, api.ErrRange}, {8, []int{number}, []int{128}, api.ErrRange}, {8, []int{number}, []int{-129}, api.ErrRange}, {8, []int{number}, []int{math.MaxInt}, api.ErrRange}, {8, []int{number}, []int{math.MinInt}, api.ErrRange}, {8, []int{number}, []int{256}, api.ErrRange},
		{3, []int{truth}, []int{2}, api.ErrRange}, {3, []int{truth}, []int{-1}, api.ErrRange}, {3, []int{truth}, []int{math.MinInt}, api.ErrRange}, {3, []int{truth, number}, []int{1, 4}, api.ErrRange}, {3, []int{truth, number}, []int{3, 3}, api.ErrRange},
	} {
		if l, e := blast.Bits(x.width, x.sorts, x.input); len(l) != 0 || e != x.want {
			t.Error(i, l, e)
		}
	}
}

// bools returns some bits of a number, the least significant one first.
func bools(n, count int) []bool {
	var l []bool
	for i := range count {
		l = append(l, n>>i&1 == 1)
	}
	return l
}

func TestValue(t *testing.T) {
	for i, x := range []struct {
		sort int
		bits []bool
		want int
	}{
		{number, bools(0b101, 3), -3}, {number, bools(0b011, 3), 3}, {number, bools(0b100, 3), -4}, {number, bools(1, 1), -1}, {number, bools(0, 1), 0}, {number, bools(0x80, 8), -128}, {number, bools(0x7f, 8), 127}, {number, bools(0xff, 8), -1},
		{number, nil, 0}, {number, bools(0x1ff, 9), 0}, {number, bools(1, 9), 0}, {number, bools(-1, 100), 0},
		{truth, bools(1, 1), 1}, {truth, bools(0, 1), 0}, {truth, nil, 0}, {truth, bools(1, 2), 0}, {truth, bools(3, 2), 0},
		{2, bools(1, 1), 0}, {-1, bools(1, 1), 0}, {2, bools(3, 3), 0}, {math.MinInt, bools(3, 3), 0}, {math.MaxInt, bools(1, 1), 0},
	} {
		if n := blast.Value(x.sort, x.bits); n != x.want {
			t.Error(i, n)
		}
	}
	for width := 1; width <= api.MaxWidth; width++ {
		for n := -1 << (width - 1); n < 1<<(width-1); n++ {
			if k := blast.Value(number, bools(n, width)); k != n {
				t.Error(width, n, k)
			}
		}
	}
}

func TestConstant(t *testing.T) {
	for i, x := range []struct {
		width, n int
		want     []int
	}{
		{3, -3, []int{1, 0, 1}}, {3, 5, []int{1, 0, 1}}, {3, 13, []int{1, 0, 1}}, {2, 0, []int{0, 0}}, {2, -2, []int{0, 1}}, {8, 6, []int{0, 1, 1, 0, 0, 0, 0, 0}}, {8, math.MinInt, []int{0, 0, 0, 0, 0, 0, 0, 0}}, {8, math.MaxInt, []int{1, 1, 1, 1, 1, 1, 1, 1}}, {8, math.MaxInt - 1, []int{0, 1, 1, 1, 1, 1, 1, 1}},
		{1, 1, nil}, {0, 0, nil}, {-1, 1, nil}, {9, 1, nil}, {math.MinInt, 1, nil}, {math.MaxInt, 1, nil},
	} {
		if l := blast.Constant(x.width, x.n); !slices.Equal(l, x.want) {
			t.Error(i, l)
		}
	}
	for width := api.MinWidth; width <= api.MaxWidth; width++ {
		for n := -600; n < 600; n++ {
			var bits []bool
			for _, x := range blast.Constant(width, n) {
				if x != 0 && x != 1 {
					t.Fatal(width, n, x)
				}
				bits = append(bits, x == 1)
			}
			if k := blast.Value(number, bits); len(bits) != width || k != bitvec.Wrap(width, n) {
				t.Fatal(width, n, bits)
			}
		}
	}
}

func TestInputsAreLeftAlone(t *testing.T) {
	sorts, input := []int{truth, number, number}, []int{1, -2, 3}
	for range 2 {
		words, n, e := blast.Words(3, sorts[:2])
		if !equalWords(words, [][]int{{2}, {4, 6, 8}}) || n != 4 || e != api.OK {
			t.Error(words, n, e)
		}
		// No two words share memory.
		_ = append(words[0], 99)
		_ = append(words, []int{1})
		if !equalWords(words, [][]int{{2}, {4, 6, 8}}) {
			t.Error(words)
		}
		bits, e := blast.Bits(3, sorts[:2], input[:2])
		if !slices.Equal(bits, []bool{true, false, true, true}) || e != api.OK {
			t.Error(bits, e)
		}
		bits[0], words[1][2] = false, 7
		blast.Constant(3, -1)[0] = 5
	}
	if !slices.Equal(sorts, []int{truth, number, number}) || !slices.Equal(input, []int{1, -2, 3}) {
		t.Error(sorts, input)
	}
}
