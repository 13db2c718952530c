package exercise_test

import (
	"math/rand"
	"reflect"
	"slices"
	"strconv"
	"strings"
	"testing"

	"assessor/api"
	"assessor/checker"
	"assessor/exercise"
	"assessor/interpreter"
	"assessor/samples"
	"assessor/value"
)

// judged is the case of an input by the chapter's definitions.
func judged(x api.Exercise, teacher, student api.Program, input []int) api.Case {
	run := func(p api.Program, name string, input []int) api.Outcome {
		o, _, e := interpreter.Run(p, name, x.Bounds, input)
		if e != api.OK {
			panic(e)
		}
		return o
	}
	yes := api.Outcome{Out: []int{1}}
	c := api.Case{Input: input}
	if x.Given != "" && !reflect.DeepEqual(run(teacher, x.Given, input), yes) {
		return c
	}
	c.Relevant, c.Right = true, true
	c.Outcome = run(student, x.Entry, input)
	if x.Model {
		c.Expected = run(teacher, x.Entry, input)
		c.Right = reflect.DeepEqual(c.Outcome, c.Expected)
	}
	if x.Accepts != "" && (c.Outcome.Fault != api.FaultNone || !reflect.DeepEqual(run(teacher, x.Accepts, append(slices.Clone(input), c.Outcome.Out...)), yes)) {
		c.Right = false
	}
	return c
}

// equal reports whether two cases are equal, where empty lists are nil.
func equal(a, b api.Case) bool {
	lists := func(c *api.Case) [][]int {
		l := [][]int{c.Input, c.Outcome.Out, c.Expected.Out}
		c.Input, c.Outcome.Out, c.Expected.Out = nil, nil, nil
		return l
	}
	l, m := lists(&a), lists(&b)
	return slices.EqualFunc(l, m, slices.Equal) && reflect.DeepEqual(a, b)
}

// bounds returns the least and the greatest input.
func bounds(x api.Exercise) (low, high []int) {
	for _, r := range x.Ranges {
		low, high = append(low, r.Lo), append(high, r.Hi)
	}
	return low, high
}

// P16.4, P16.5, P16.7

func TestCasesLikeTheDefinitions(t *testing.T) {
	r := rand.New(rand.NewSource(1))
	count := map[string]int{}
	for range 1500 {
		x, teacher, ok := samples.Exercise(r)
		if !ok {
			continue
		}
		made, e := exercise.New(x)
		if e != api.OK {
			count[strconv.Itoa(int(e))]++
			continue
		}
		if made.Count() > 1000 {
			continue
		}
		source := samples.Changed(r, x.Source)
		s, _, e := made.Submit(source)
		student, _, _ := checker.Check(source)
		if e != api.OK {
			// The length of an array was changed.
			count["refused"]++
			continue
		}
		low, high := bounds(x)
		var wrong []int
		i := 0
		for input, more := low, true; more; input, more = value.Next(low, high, input) {
			want := judged(x, teacher, student, input)
			got, e := s.Try(input)
			relevant, f := made.Relevant(input)
			if !equal(got, want) || e != api.OK || relevant != want.Relevant || f != api.OK {
				t.Fatalf("%v\n%s\n%v instead of %v, %v", x, source, got, want, e)
			}
			if n, e := made.Index(input); n != i || e != api.OK {
				t.Fatal(x, input, n, e)
			}
			if back, e := made.Input(i); !slices.Equal(back, input) || e != api.OK {
				t.Fatal(x, i, back, e)
			}
			if want.Relevant && !want.Right {
				wrong = append(wrong, i)
			}
			count[kind(x, want)]++
			i++
		}
		if made.Count() != i {
			t.Fatal(x, made.Count(), i)
		}
		for range 4 {
			first := r.Intn(i+3) - 1
			k := slices.IndexFunc(wrong, func(n int) bool { return n >= first })
			want := 0
			if k >= 0 {
				want = wrong[k]
			}
			if n, ok := s.Search(first); n != want || ok != (k >= 0) {
				t.Fatal(x, source, first, n, ok, wrong)
			}
		}
	}
	for _, name := range strings.Fields("right+accepts wrong+accepts right+model wrong+model right+model+accepts wrong+model+accepts irrelevant fault") {
		if count[name] < 50 {
			t.Error(name, count)
		}
	}
}

// kind returns a name for a case.
func kind(x api.Exercise, c api.Case) string {
	if !c.Relevant {
		return "irrelevant"
	}
	if c.Right && c.Outcome.Fault != api.FaultNone {
		return "fault"
	}
	name := map[bool]string{false: "wrong", true: "right"}[c.Right]
	if x.Model {
		name += "+model"
	}
	if x.Accepts != "" {
		name += "+accepts"
	}
	return name
}

func TestTheTeachersProgramIsRight(t *testing.T) {
	r := rand.New(rand.NewSource(2))
	right, refused := 0, 0
	for range 600 {
		x, p, ok := samples.Exercise(r)
		x.Model = true
		made, e := exercise.New(x)
		if !ok || e != api.OK || made.Count() > 1000 {
			continue
		}
		s := submit(t, made, x.Source)
		for i := range made.Count() {
			input, _ := made.Input(i)
			c, _ := s.Try(input)
			if !c.Relevant {
				continue
			}
			agrees := true
			if x.Accepts != "" {
				agrees = c.Outcome.Fault == api.FaultNone
				if agrees {
					agrees, _ = interpreter.Accepts(p, x.Accepts, x.Bounds, slices.Concat(input, c.Outcome.Out))
				}
			}
			if c.Right != agrees {
				t.Fatal(x, c)
			}
			if agrees {
				right++
			} else {
				refused++
			}
		}
		if i, ok := s.Search(0); ok && x.Accepts == "" {
			t.Fatal(x, i)
		}
	}
	if right < 500 || refused < 500 {
		t.Error(right, refused)
	}
}

// P16.5

func TestLargeNumbersOfRandomPrograms(t *testing.T) {
	r := rand.New(rand.NewSource(3))
	found := 0
	for range 300 {
		x, p, ok := samples.Exercise(r)
		made, e := exercise.New(x)
		if !ok || e != api.OK {
			continue
		}
		var want []int
		for number, n := range preorder(p.Tree) {
			if k, _ := strconv.Atoi(n.Text); n.Kind == api.NodeNumber && value.Wrap(x.Bounds.Width, k) != k {
				want = append(want, number)
			}
		}
		found += len(want)
		if got := submit(t, made, x.Source).Large(); !slices.Equal(got, want) {
			t.Fatal(x, got, want)
		}
	}
	if found < 100 {
		t.Error(found)
	}
}

// memory notes the slices in a value.
func memory(v reflect.Value, seen map[uintptr]bool) {
	switch v.Kind() {
	case reflect.Slice:
		if v.Cap() > 0 {
			seen[v.Pointer()] = true
		}
		for i := range v.Len() {
			memory(v.Index(i), seen)
		}
	case reflect.Struct:
		for i := range v.NumField() {
			memory(v.Field(i), seen)
		}
	}
}

// apart reports whether no two values share memory.
func apart(values ...any) bool {
	all := map[uintptr]bool{}
	for _, v := range values {
		own := map[uintptr]bool{}
		memory(reflect.ValueOf(v), own)
		for at := range own {
			if all[at] {
				return false
			}
			all[at] = true
		}
	}
	return true
}

func TestResultsAreNew(t *testing.T) {
	source := "record r { k: int, m: bool } proc f(x: int, var p: r) { g(x); p.k = 99; } proc g(x: int) { assert x != 20; }"
	x := exerciseOf(source, true, from(-1, 1), from(0, 1), from(0, 1))
	made := task(t, x)
	s := submit(t, made, source)
	input := []int{0, 1, 1}
	call := func() []any {
		one, _ := made.Input(4)
		tried, _ := s.Try(input)
		_, wrong, _ := made.Submit("proc f() { return 1 == true; }")
		return []any{made.Exercise(), made.Program(), s.Program(), s.Large(), one, tried, wrong}
	}
	kept, l := call(), call()
	if !apart(append(append(l, kept...), x, input)...) {
		t.Error("shared memory")
	}
	for _, v := range l {
		spoil(reflect.ValueOf(v))
	}
	x.Ranges[0] = api.Range{}
	if got := call(); !reflect.DeepEqual(got, kept) || made.Count() != 12 || !slices.Equal(input, []int{0, 1, 1}) {
		t.Error(got)
	}
	if large := s.Large(); len(large) != 2 {
		t.Error(large)
	}
}

// spoil overwrites all elements of the slices in a value.
func spoil(v reflect.Value) {
	switch v.Kind() {
	case reflect.Slice:
		for i := range v.Len() {
			spoil(v.Index(i))
			v.Index(i).SetZero()
		}
	case reflect.Struct:
		for i := range v.NumField() {
			spoil(v.Field(i))
		}
	}
}
