package dataflow

import (
	"math/bits"

	"assessor/api"
	"assessor/flow"
)

// Solve returns the least sets in front of and behind each point.
func Solve(f api.Flow, forward bool, gen, kill [][]int) ([][]int, [][]int, api.Errno) {
	before := flow.Before(f)
	// A valid flow has points.
	if len(before) == 0 || !areSets(gen, len(before)) || !areSets(kill, len(before)) {
		return nil, nil, api.ErrArg
	}
	if forward {
		front, behind := spread(turned(before), gen, kill)
		return front, behind, api.OK
	}
	var next [][]int
	for _, p := range f.Points {
		next = append(next, p.Next)
	}
	behind, front := spread(turned(next), gen, kill)
	return front, behind, api.OK
}

// areSets reports whether a list consists of so many sets.
func areSets(l [][]int, count int) bool {
	if len(l) != count {
		return false
	}
	for _, s := range l {
		last := -1
		for _, n := range s {
			if n <= last || n >= api.MaxNodes {
				return false
			}
			last = n
		}
	}
	return true
}

// places is a set of points, a bit for each.
type places [api.MaxNodes / 64]uint64

func (p *places) add(point int) { p[point/64] |= 1 << (point % 64) }

// take removes the least point, if there is one, and returns it.
func (p *places) take() (int, bool) {
	for i, word := range p {
		if word != 0 {
			p[i] = word & (word - 1)
			return 64*i + bits.TrailingZeros64(word), true
		}
	}
	return 0, false
}

// turned returns for each number the places of the lists that contain it.
func turned(l [][]int) []places {
	in := make([]places, api.MaxNodes)
	for i, numbers := range l {
		for _, n := range numbers {
			in[n].add(i)
		}
	}
	return in
}

// spread returns the sets that arrive at each point, and those that leave it, if each point has edges to others. Numbers do not depend on each other, so that each is followed alone.
func spread(edges []places, gen, kill [][]int) ([][]int, [][]int) {
	arriving, leaving := make([][]int, len(gen)), make([][]int, len(gen))
	made, lost := turned(gen), turned(kill)
	for n := range api.MaxNodes {
		// Most numbers are in no set.
		if made[n] == (places{}) {
			continue
		}
		arrive, leave := follow(edges, made[n], lost[n])
		for p, ok := arrive.take(); ok; p, ok = arrive.take() {
			arriving[p] = append(arriving[p], n)
		}
		for p, ok := leave.take(); ok; p, ok = leave.take() {
			leaving[p] = append(leaving[p], n)
		}
	}
	return arriving, leaving
}

// follow returns the points at which something arrives that is made at some points and lost at others, and those that it leaves.
func follow(edges []places, made, lost places) (places, places) {
	var arrive places
	leave, wait := made, made
	for p, ok := wait.take(); ok; p, ok = wait.take() {
		for i, to := range edges[p] {
			fresh := to &^ (lost[i] | leave[i])
			arrive[i] |= to
			leave[i] |= fresh
			wait[i] |= fresh
		}
	}
	return arrive, leave
}
