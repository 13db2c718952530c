package slicing

import (
	"slices"
	"strconv"

	"assessor/api"
)

// rebuild returns a tree in which each node is replaced by what a function makes of its number and of itself, with Kids that are replaced already.
func rebuild(n api.Node, change func(number int, n api.Node) api.Node) api.Node {
	next := 0
	var visit func(api.Node) api.Node
	visit = func(n api.Node) api.Node {
		number := next
		next++
		var kids []api.Node
		for _, k := range n.Kids {
			kids = append(kids, visit(k))
		}
		n.Kids = kids
		return change(number, n)
	}
	return visit(n)
}

// written returns the node that writes a type.
func written(t api.Type) api.Node {
	switch t.Kind {
	case api.TypeInt:
		return api.Node{Kind: api.NodeType, Text: "int"}
	case api.TypeBool:
		return api.Node{Kind: api.NodeType, Text: "bool"}
	case api.TypeArray:
		return api.Node{Kind: api.NodeArrayType, Text: strconv.Itoa(t.Len)}
	}
	return api.Node{Kind: api.NodeType, Text: t.Record}
}

// cut returns a tree without the statements of a procedure that are not kept.
func cut(n api.Node, procedure int, kept []int) api.Node {
	outer := around(n, procedure)
	return rebuild(n, func(number int, n api.Node) api.Node {
		if _, is := outer[number]; is && !slices.Contains(kept, number) {
			return api.Node{Kind: api.NodeNone}
		}
		if n.Kind == api.NodeBlock {
			n.Kids = present(n.Kids)
		}
		return n
	})
}

// present returns the nodes of a list that are there.
func present(l []api.Node) []api.Node {
	var there []api.Node
	for _, n := range l {
		if n.Kind != api.NodeNone {
			there = append(there, n)
		}
	}
	return there
}
