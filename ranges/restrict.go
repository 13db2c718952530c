package ranges

import (
	"slices"

	"assessor/api"
)

// restrict returns a store restricted by a condition and its truth value, and whether there is one. It is the given store itself if nothing changes.
func (v *view) restrict(number int, truth bool, store []api.Range) ([]api.Range, bool) {
	if !contains(v.interval(number, store), only(bit(truth))) {
		return nil, false
	}
	n, kids := v.nodes[number], v.kids[number]
	switch {
	case n.Kind == api.NodeName:
		return with(store, v.program.Names[number], only(bit(truth))), true
	case n.Kind == api.NodeUnary:
		return v.restrict(kids[0], !truth, store)
	case n.Kind == api.NodeBinary && (n.Text == "and" && truth || n.Text == "or" && !truth):
		first, ok := v.restrict(kids[0], truth, store)
		if !ok {
			return nil, false
		}
		return v.restrict(kids[1], truth, first)
	case n.Kind == api.NodeBinary:
		return v.compare(number, truth, store), true
	}
	return store, true
}

// compare returns a store restricted by a condition with two operands, of which only a comparison of a variable with something restricts it, and a truth value that the condition can have.
func (v *view) compare(number int, truth bool, store []api.Range) []api.Range {
	relation := v.nodes[number].Text
	if !truth {
		relation = opposites()[relation]
	}
	left, right := v.kids[number][0], v.kids[number][1]
	narrow, ok := v.narrowings[relation]
	if !ok || v.nodes[left].Kind != api.NodeName || v.program.Types[left].Kind != api.TypeInt {
		return store
	}
	// Something is left: otherwise the relation would hold for no pair of numbers.
	variable := v.program.Names[left]
	return with(store, variable, narrow(store[variable], v.interval(right, store)))
}

// opposites returns for each relation the one that holds if it does not.
func opposites() map[string]string {
	return map[string]string{"==": "!=", "!=": "==", "<": ">=", ">=": "<", ">": "<=", "<=": ">"}
}

// narrowings returns for each relation the function that makes the interval of a variable from its old one and that of the right operand, if the relation holds.
func narrowings() map[string]operation {
	return map[string]operation{
		"==": func(x, r api.Range) api.Range { return api.Range{Lo: max(x.Lo, r.Lo), Hi: min(x.Hi, r.Hi)} },
		"!=": without,
		"<":  func(x, r api.Range) api.Range { return api.Range{Lo: x.Lo, Hi: min(x.Hi, r.Hi-1)} },
		"<=": func(x, r api.Range) api.Range { return api.Range{Lo: x.Lo, Hi: min(x.Hi, r.Hi)} },
		">":  func(x, r api.Range) api.Range { return api.Range{Lo: max(x.Lo, r.Lo+1), Hi: x.Hi} },
		">=": func(x, r api.Range) api.Range { return api.Range{Lo: max(x.Lo, r.Lo), Hi: x.Hi} },
	}
}

// without returns an interval without its bounds that are equal to the only number of another one.
func without(x, r api.Range) api.Range {
	if r.Lo != r.Hi {
		return x
	}
	return api.Range{Lo: x.Lo + bit(x.Lo == r.Lo), Hi: x.Hi - bit(x.Hi == r.Lo)}
}

// with returns a store in which a variable has another interval.
func with(store []api.Range, variable int, r api.Range) []api.Range {
	store = slices.Clone(store)
	store[variable] = r
	return store
}
