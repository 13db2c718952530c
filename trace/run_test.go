package trace

import (
	"testing"

	"assessor/api"
	"assessor/checker"
)

func TestStepsThatAreNotWanted(t *testing.T) {
	p, _, _ := checker.Check("proc f(x: int) { while x < 9 or g(x) { x = x + 1; } } proc g(x: int): bool { return x == 1 / 0; }")
	b, input := api.Bounds{Width: 8, Loops: 8}, []int{4}
	all := 0
	for range steps(p, 0, b, input) {
		all++
	}
	for wanted := range all + 1 {
		got := 0
		for range steps(p, 0, b, input) {
			if got++; got >= wanted {
				break
			}
		}
		if got != max(wanted, 1) {
			t.Error(got, wanted)
		}
	}
}

func TestPanicsOfOthersPass(t *testing.T) {
	p, _, _ := checker.Check("proc f() { }")
	defer func() {
		if x := recover(); x != "other" {
			t.Error(x)
		}
	}()
	for range steps(p, 0, api.Bounds{Width: 4}, nil) {
		panic("other")
	}
}
