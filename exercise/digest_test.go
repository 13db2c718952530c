package exercise_test

import (
	"hash/fnv"
	"math"
	"strings"
	"testing"

	"assessor/api"
	"assessor/exercise"
)

// P16.6

func TestDigest(t *testing.T) {
	for _, c := range []struct {
		x            api.Exercise
		source, text string
	}{
		{api.Exercise{}, "", "0:0:0:0:0,0,0,0,0:"},
		{exerciseMax(), "x\n", "66:" + maxSource + "3:max0:0:1,3,2,2,-1,1,0,2,2:x\n"},
		{api.Exercise{Source: "\xff\x00", Entry: "a:b", Accepts: "12", Given: "é", Bounds: api.Bounds{Width: -1, Loops: 10}, Ranges: []api.Range{{Lo: 5, Hi: math.MinInt}}}, strings.Repeat("z", 10000), "2:\xff\x003:a:b2:122:é0,-1,10,1,5,-9223372036854775808,10000:" + strings.Repeat("z", 10000)},
	} {
		h := fnv.New64a()
		h.Write([]byte(c.text))
		if got := exercise.Digest(c.x, c.source); got != h.Sum64() {
			t.Errorf("%q: %x", c.text, got)
		}
	}
	if got := exercise.Digest(api.Exercise{}, ""); got != 0x860c584c6f30c88f {
		t.Errorf("%x", got)
	}
}

func TestDigestsDiffer(t *testing.T) {
	seen := map[uint64]int{}
	add := func(x api.Exercise, source string) { seen[exercise.Digest(x, source)]++ }
	changes := []func(*api.Exercise){
		func(*api.Exercise) {}, func(x *api.Exercise) { x.Source += " " }, func(x *api.Exercise) { x.Entry = "ma" }, func(x *api.Exercise) { x.Entry, x.Accepts = "", "max" }, func(x *api.Exercise) { x.Entry, x.Given = "", "max" }, func(x *api.Exercise) { x.Accepts = "m" }, func(x *api.Exercise) { x.Given = "m" }, func(x *api.Exercise) { x.Model = false },
		func(x *api.Exercise) { x.Bounds.Width = 4 }, func(x *api.Exercise) { x.Bounds.Loops = 3 }, func(x *api.Exercise) { x.Ranges = x.Ranges[:1] }, func(x *api.Exercise) { x.Ranges[0].Lo = -2 }, func(x *api.Exercise) { x.Ranges[1].Hi = 1 },
	}
	for _, change := range changes {
		add(exerciseMax(change), maxSource)
	}
	add(exerciseMax(), maxSource+" ")
	add(exerciseMax(), "")
	if len(seen) != len(changes)+2 {
		t.Error(seen)
	}
}
