package samples

import (
	"slices"
	"strconv"

	"assessor/api"
)

// place returns a place with its type; if it is only read, also the variable of a loop.
func (w *writer) place(read bool, levels int) (api.Node, api.Type, bool) {
	var l []variable
	for _, v := range w.visible {
		if read || !v.loop {
			l = append(l, v)
		}
	}
	if len(l) == 0 {
		return api.Node{}, api.Type{}, false
	}
	v := l[w.source.Intn(len(l))]
	name := node(api.NodeName, v.name)
	if v.t.Kind == api.TypeArray && levels > 0 && w.chance(60) {
		return node(api.NodeIndex, "", name, w.index(v.t.Len, levels-1)), integer(), true
	}
	if v.t.Kind == api.TypeRecord && w.chance(60) {
		fields := w.fields(v.t)
		f := fields[w.source.Intn(len(fields))]
		return node(api.NodeMember, f.Name, name), f.Type, true
	}
	return name, v.t, true
}

// index returns the index of an element of an array.
func (w *writer) index(length, levels int) api.Node {
	if w.calm && w.chance(60) {
		return node(api.NodeNumber, strconv.Itoa(w.source.Intn(length)))
	}
	return w.expression(integer(), levels)
}

func (w *writer) fields(t api.Type) []api.Field {
	i := slices.IndexFunc(w.records, func(x api.Record) bool { return x.Name == t.Record })
	return w.records[i].Fields
}

// call returns the call of a procedure with a result of a type, or without one.
func (w *writer) call(result api.Type, levels int) (api.Node, bool) {
	for _, x := range w.procedures {
		if x.result != result || w.chance(40) {
			continue
		}
		n := node(api.NodeCall, x.name)
		var used []string
		for i, v := range x.parameters {
			k := w.expression(v.t, levels-1)
			if x.vars[i] {
				j := slices.IndexFunc(w.visible, func(o variable) bool { return o.t == v.t && !o.loop && !slices.Contains(used, o.name) })
				if j < 0 {
					return n, false
				}
				k = node(api.NodeName, w.visible[j].name)
				used = append(used, k.Text)
			}
			n.Kids = append(n.Kids, k)
		}
		return n, true
	}
	return api.Node{}, false
}

// tries returns how often it is tried to find a place for an expression.
func (w *writer) tries(levels int) int {
	switch {
	case !w.calm:
		return 4
	case levels > 0:
		return 2
	}
	return 12
}

func (w *writer) expression(t api.Type, levels int) api.Node {
	for range w.tries(levels) {
		if place, of, ok := w.place(true, levels); ok && of == t && w.chance(50) {
			return place
		}
	}
	if levels > 0 && w.chance(30) {
		if n, ok := w.call(t, levels-1); ok {
			return n
		}
	}
	switch t.Kind {
	case api.TypeArray:
		n := node(api.NodeList, "")
		for range t.Len {
			n.Kids = append(n.Kids, w.expression(integer(), levels-1))
		}
		return n
	case api.TypeRecord:
		n := node(api.NodeCall, t.Record)
		for _, f := range w.fields(t) {
			n.Kids = append(n.Kids, w.expression(f.Type, levels-1))
		}
		return n
	case api.TypeBool:
		return w.condition(levels)
	}
	return w.number(levels)
}

// condition returns an expression that is no place and no call, and bool.
func (w *writer) condition(levels int) api.Node {
	switch {
	case levels <= 0:
		return node(api.NodeBool, w.one("true false"))
	case w.chance(20):
		return node(api.NodeUnary, "not", w.expression(truth(), levels-1))
	case w.chance(40):
		return node(api.NodeBinary, w.one("and or == !="), w.expression(truth(), levels-1), w.expression(truth(), levels-1))
	}
	return node(api.NodeBinary, w.one("== != < <= > >="), w.expression(integer(), levels-1), w.expression(integer(), levels-1))
}

// number returns an expression that is no place and no call, and int.
func (w *writer) number(levels int) api.Node {
	array := slices.IndexFunc(w.visible, func(v variable) bool { return v.t.Kind == api.TypeArray })
	switch {
	case array >= 0 && w.chance(20):
		return node(api.NodeLen, "", node(api.NodeName, w.visible[array].name))
	case levels <= 0:
		return node(api.NodeNumber, w.one("0 1 2 7"))
	case w.chance(20):
		return node(api.NodeUnary, "-", w.expression(integer(), levels-1))
	}
	return node(api.NodeBinary, w.one(either(w.calm, "+ + - - * / %", "+ - * / %")), w.expression(integer(), levels-1), w.expression(integer(), levels-1))
}
