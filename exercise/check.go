package exercise

import (
	"slices"

	"assessor/api"
	"assessor/checker"
	"assessor/types"
	"assessor/value"
)

// check returns why an exercise is not valid whose program is right.
func check(x api.Exercise, p api.Program) api.Errno {
	b := x.Bounds
	switch {
	case b.Width < api.MinWidth || b.Width > api.MaxWidth || b.Loops < 0 || b.Loops > api.MaxLoops:
		return api.ErrRange
	case !named(p, x):
		return api.ErrName
	case !x.Model && x.Accepts == "":
		return api.ErrArg
	case !typed(p, x):
		return api.ErrType
	case !affordable(p, x):
		return api.ErrTooLarge
	}
	return checkRanges(x, types.Scalars(p.Records, parameters(find(p, x.Entry))...))
}

// named reports whether the names of an exercise are those of procedures.
func named(p api.Program, x api.Exercise) bool {
	for _, name := range used(x, true) {
		if _, ok := checker.Find(p, name); !ok {
			return false
		}
	}
	return true
}

// used returns the names of the procedures of an exercise, with or without that of its entry.
func used(x api.Exercise, entry bool) []string {
	var l []string
	if entry {
		l = append(l, x.Entry)
	}
	for _, name := range []string{x.Accepts, x.Given} {
		if name != "" {
			l = append(l, name)
		}
	}
	return l
}

// typed reports whether the types of the procedures of an exercise are written, and fit.
func typed(p api.Program, x api.Exercise) bool {
	for _, name := range used(x, true) {
		if untyped(p, name) {
			return false
		}
	}
	entry := find(p, x.Entry)
	input := parameters(entry)
	fits := func(name string, l []api.Type) bool {
		if name == "" {
			return true
		}
		q := find(p, name)
		return q.Result.Kind == api.TypeBool && same(p, parameters(q), p, l)
	}
	return fits(x.Accepts, slices.Concat(input, results(entry))) && fits(x.Given, input)
}

// untyped reports whether a procedure has a parameter whose type is not written.
func untyped(p api.Program, name string) bool {
	missing := func(n api.Node) bool { return n.Kids[0].Kind == api.NodeNone }
	return slices.ContainsFunc(p.Tree.Kids, func(n api.Node) bool {
		return n.Kind == api.NodeProcedure && n.Text == name && slices.ContainsFunc(n.Kids[0].Kids, missing)
	})
}

// parameters returns the types of the parameters of a procedure.
func parameters(x api.Procedure) []api.Type {
	var l []api.Type
	for _, v := range x.Variables[:x.Parameters] {
		l = append(l, v.Type)
	}
	return l
}

// results returns the types of the results of a procedure.
func results(x api.Procedure) []api.Type {
	if x.Result.Kind != api.TypeNone {
		return []api.Type{x.Result}
	}
	var l []api.Type
	for _, v := range x.Variables[:x.Parameters] {
		if v.Var {
			l = append(l, v.Type)
		}
	}
	return l
}

// same reports whether types of two programs are the same, one by one.
func same(p api.Program, l []api.Type, q api.Program, m []api.Type) bool {
	return slices.EqualFunc(l, m, func(a, b api.Type) bool { return types.Same(a, p.Records, b, q.Records) })
}

// affordable reports whether neither the scalars nor the costs of the procedures of an exercise are too many.
func affordable(p api.Program, x api.Exercise) bool {
	entry := find(p, x.Entry)
	for _, l := range [][]api.Type{parameters(entry), results(entry)} {
		if len(types.Scalars(p.Records, l...)) > api.MaxScalars {
			return false
		}
	}
	return !slices.ContainsFunc(used(x, x.Model), func(name string) bool { return !cheap(p, name, x.Bounds) })
}

// cheap reports whether the cost of a procedure is not too great.
func cheap(p api.Program, name string, b api.Bounds) bool {
	i, _ := checker.Find(p, name)
	cost, _ := checker.Cost(p, i, b.Loops)
	return cost <= api.MaxCost
}

// checkRanges returns why the ranges of an exercise do not belong to scalars of some types.
func checkRanges(x api.Exercise, scalars []api.Type) api.Errno {
	if len(x.Ranges) != len(scalars) {
		return api.ErrArg
	}
	width := x.Bounds.Width
	widest := map[int]api.Range{
		api.TypeInt:  {Lo: value.Least(width), Hi: value.Greatest(width)},
		api.TypeBool: {Lo: 0, Hi: 1},
	}
	for i, r := range x.Ranges {
		if w := widest[scalars[i].Kind]; r.Lo > r.Hi || r.Lo < w.Lo || r.Hi > w.Hi {
			return api.ErrRange
		}
	}
	if _, ok := size(x.Ranges); !ok {
		return api.ErrTooLarge
	}
	return api.OK
}

// span returns the number of ints of a range.
func span(r api.Range) int { return r.Hi - r.Lo + 1 }

// size returns the number of lists with ints of ranges, and false if there are too many.
func size(l []api.Range) (int, bool) {
	count := 1
	for _, r := range l {
		count *= span(r)
		if count > 1<<api.MaxInputBits {
			return 0, false
		}
	}
	return count, true
}
