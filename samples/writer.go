package samples

import (
	"slices"
	"strconv"
	"strings"

	"assessor/api"
	"assessor/types"
)

// variable is one that is visible.
type variable struct {
	name string
	t    api.Type
	loop bool
}

// procedure is the header of one.
type procedure struct {
	name       string
	parameters []variable
	vars       []bool
	result     api.Type
}

// writer makes a random program.
type writer struct {
	source     Source
	calm       bool // few runs end with a fault, and most depend on the input
	records    []api.Record
	procedures []procedure // that may be called
	visible    []variable
	result     api.Type
	last       int // number of a name
}

func (w *writer) chance(percent int) bool { return w.source.Intn(100) < percent }

// one returns one of some words.
func (w *writer) one(words string) string {
	l := strings.Fields(words)
	return l[w.source.Intn(len(l))]
}

// either returns what holds for a calm program, or for another one.
func either[T any](calm bool, a, b T) T {
	if calm {
		return a
	}
	return b
}

func (w *writer) fresh(prefix string) string {
	w.last++
	return prefix + strconv.Itoa(w.last)
}

func node(kind int, text string, kids ...api.Node) api.Node {
	return api.Node{Kind: kind, Text: text, Kids: kids}
}

func integer() api.Type { return api.Type{Kind: api.TypeInt} }

func truth() api.Type { return api.Type{Kind: api.TypeBool} }

func (w *writer) anyType() api.Type {
	switch i := w.source.Intn(6 + len(w.records)); i {
	case 0, 1:
		return integer()
	case 2, 3:
		return truth()
	case 4, 5:
		return api.Type{Kind: api.TypeArray, Len: 1 + w.source.Intn(3)}
	default:
		return api.Type{Kind: api.TypeRecord, Record: w.records[i-6].Name}
	}
}

// written returns the node of a type.
func written(t api.Type) api.Node {
	switch t.Kind {
	case api.TypeInt, api.TypeBool, api.TypeRecord:
		return node(api.NodeType, types.Format(t))
	case api.TypeArray:
		return node(api.NodeArrayType, strconv.Itoa(t.Len))
	}
	return node(api.NodeNone, "")
}

func (w *writer) program() api.Node {
	n := node(api.NodeProgram, "")
	for range w.source.Intn(3) {
		n.Kids = append(n.Kids, w.record())
	}
	for range 1 + w.source.Intn(4) {
		n.Kids = append(n.Kids, w.procedure())
	}
	for i := range n.Kids {
		k := w.source.Intn(i + 1)
		n.Kids[i], n.Kids[k] = n.Kids[k], n.Kids[i]
	}
	return n
}

func (w *writer) record() api.Node {
	x := api.Record{Name: w.fresh("r")}
	n := node(api.NodeRecord, x.Name)
	for range 1 + w.source.Intn(3) {
		f := api.Field{Name: w.fresh("f"), Type: []api.Type{integer(), truth()}[w.source.Intn(2)]}
		x.Fields = append(x.Fields, f)
		n.Kids = append(n.Kids, node(api.NodeField, f.Name, written(f.Type)))
	}
	w.records = append(w.records, x)
	return n
}

func (w *writer) procedure() api.Node {
	x := procedure{name: w.fresh("p")}
	if w.chance(60) {
		x.result = w.anyType()
	}
	parameters := node(api.NodeParameters, "")
	for range either(w.calm, 2, 0) + w.source.Intn(either(w.calm, 3, 4)) {
		v := variable{name: w.fresh("a"), t: w.anyType()}
		by := x.result.Kind == api.TypeNone && w.chance(60)
		kind := api.NodeParameter
		if by {
			kind = api.NodeVarParameter
		}
		x.parameters, x.vars = append(x.parameters, v), append(x.vars, by)
		parameters.Kids = append(parameters.Kids, node(kind, v.name, written(v.t)))
	}
	w.visible, w.result = slices.Clone(x.parameters), x.result
	body := w.block(3)
	if w.calm && x.result.Kind != api.TypeNone {
		body.Kids = append(body.Kids, node(api.NodeReturn, "", w.expression(x.result, 2)))
	}
	w.procedures = append(w.procedures, x)
	return node(api.NodeProcedure, x.name, parameters, written(x.result), body)
}

func (w *writer) block(levels int) api.Node {
	n := node(api.NodeBlock, "")
	visible := len(w.visible)
	for range either(w.calm, 1, 0) + w.source.Intn(4) {
		n.Kids = append(n.Kids, w.statement(levels-1))
	}
	w.visible = w.visible[:visible]
	return n
}

func (w *writer) statement(levels int) api.Node {
	kind := api.NodeVar + w.source.Intn(9)
	if levels <= 0 && kind >= api.NodeIf && kind <= api.NodeFor || kind > api.NodeDo {
		kind = api.NodeVar
	}
	if w.calm {
		kind = w.calmed(kind)
	}
	switch kind {
	case api.NodeAssign:
		if place, t, ok := w.place(false, 2); ok {
			return node(kind, "", place, w.expression(t, 2))
		}
	case api.NodeIf:
		return w.choice(levels)
	case api.NodeWhile:
		return node(kind, "", w.expression(truth(), 2), w.block(levels))
	case api.NodeFor:
		n := node(kind, w.fresh("i"), w.bound(2), w.bound(1))
		w.visible = append(w.visible, variable{n.Text, integer(), true})
		n.Kids = append(n.Kids, w.block(levels))
		w.visible = w.visible[:len(w.visible)-1]
		return n
	case api.NodeReturn:
		if w.result.Kind == api.TypeNone {
			return node(kind, "", node(api.NodeNone, ""))
		}
		return node(kind, "", w.expression(w.result, 2))
	case api.NodeAssert:
		return node(kind, "", w.expression(truth(), 3))
	case api.NodeDo:
		if n, ok := w.call(api.Type{}, 2); ok {
			n.Kind = kind
			return n
		}
	}
	return w.define()
}

// calmed returns mostly another kind than one of those statements that often end runs.
func (w *writer) calmed(kind int) int {
	switch {
	case kind == api.NodeReturn && w.chance(70), kind == api.NodeAssert && w.chance(80):
		return api.NodeAssign
	case kind == api.NodeWhile && w.chance(60):
		return api.NodeIf
	}
	return kind
}

// bound returns the first or the last int of a for.
func (w *writer) bound(levels int) api.Node {
	if w.calm && w.chance(60) {
		return node(api.NodeNumber, w.one("0 1 2"))
	}
	return w.expression(integer(), levels)
}

func (w *writer) choice(levels int) api.Node {
	other := node(api.NodeNone, "")
	if w.chance(50) {
		other = w.block(levels)
	} else if w.chance(30) {
		other = node(api.NodeIf, "", w.expression(truth(), 2), w.block(levels-1), other)
	}
	return node(api.NodeIf, "", w.expression(truth(), 2), w.block(levels), other)
}

func (w *writer) define() api.Node {
	t := w.anyType()
	n := node(api.NodeVar, w.fresh("v"), node(api.NodeNone, ""), w.expression(t, 3))
	if w.chance(40) {
		n.Kids[0] = written(t)
	}
	w.visible = append(w.visible, variable{n.Text, t, false})
	return n
}
