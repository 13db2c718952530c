package tree

import (
	"slices"

	"assessor/api"
	"assessor/lexer"
)

// class reports whether a node may stand at a place, whatever is below it.
type class func(api.Node) bool

// of returns the class of the nodes of some kinds.
func of(kinds ...int) class {
	return func(n api.Node) bool { return slices.Contains(kinds, n.Kind) }
}

func statement(n api.Node) bool { return api.NodeVar <= n.Kind && n.Kind <= api.NodeDo }

func expression(n api.Node) bool { return api.NodeName <= n.Kind && n.Kind <= api.NodeBinary }

// basic is the class of the types that a field can have.
func basic(n api.Node) bool {
	return n.Kind == api.NodeType && (n.Text == "int" || n.Text == "bool")
}

// row returns a function that checks for one kid of each class, in order.
func row(l ...class) func([]api.Node) bool {
	fits := func(n api.Node, c class) bool { return c(n) }
	return func(kids []api.Node) bool { return slices.EqualFunc(kids, l, fits) }
}

// many returns a function that checks for kids of one class, of which there are at least some.
func many(least int, c class) func([]api.Node) bool {
	other := func(n api.Node) bool { return !c(n) }
	return func(kids []api.Node) bool { return len(kids) >= least && !slices.ContainsFunc(kids, other) }
}

// shapes returns the functions that check the kids of the nodes of each kind.
func shapes() map[int]func([]api.Node) bool {
	block, name := of(api.NodeBlock), of(api.NodeName)
	typed := of(api.NodeType, api.NodeArrayType, api.NodeNone)
	return map[int]func([]api.Node) bool{
		api.NodeNone:         row(),
		api.NodeProgram:      many(0, of(api.NodeRecord, api.NodeProcedure)),
		api.NodeRecord:       many(1, of(api.NodeField)),
		api.NodeField:        row(basic),
		api.NodeProcedure:    row(of(api.NodeParameters), typed, block),
		api.NodeParameters:   many(0, of(api.NodeParameter, api.NodeVarParameter)),
		api.NodeParameter:    row(typed),
		api.NodeVarParameter: row(typed),
		api.NodeType:         row(),
		api.NodeArrayType:    row(),
		api.NodeBlock:        many(0, statement),
		api.NodeVar:          row(typed, expression),
		api.NodeAssign:       row(of(api.NodeName, api.NodeIndex, api.NodeMember), expression),
		api.NodeIf:           row(expression, block, of(api.NodeBlock, api.NodeIf, api.NodeNone)),
		api.NodeWhile:        row(expression, block),
		api.NodeFor:          row(expression, expression, block),
		api.NodeReturn: row(func(n api.Node) bool {
			return n.Kind == api.NodeNone || expression(n)
		}),
		api.NodeAssert: row(expression),
		api.NodeDo:     many(0, expression),
		api.NodeName:   row(),
		api.NodeIndex:  row(name, expression),
		api.NodeMember: row(name),
		api.NodeLen:    row(name),
		api.NodeNumber: row(),
		api.NodeBool:   row(),
		api.NodeList:   many(1, expression),
		api.NodeCall:   many(0, expression),
		api.NodeUnary:  row(expression),
		api.NodeBinary: row(expression, expression),
	}
}

// shaped reports whether the root of a tree is of a class, and all its nodes have the shapes of their kinds.
func shaped(n api.Node, root class) bool {
	if !root(n) {
		return false
	}
	fits := shapes()
	for _, k := range walk(n) {
		// NodeError, and numbers that are no kind, have no shape.
		if f, ok := fits[k.Kind]; !ok || !textFits(k) || !f(k.Kids) {
			return false
		}
	}
	return true
}

// textFits reports whether a node has a Text that its kind can have.
func textFits(n api.Node) bool {
	switch n.Kind {
	case api.NodeRecord, api.NodeField, api.NodeProcedure, api.NodeParameter, api.NodeVarParameter,
		api.NodeVar, api.NodeFor, api.NodeDo, api.NodeName, api.NodeMember, api.NodeCall:
		return lexer.Name(n.Text)
	case api.NodeType:
		return basic(n) || lexer.Name(n.Text)
	case api.NodeArrayType, api.NodeNumber:
		return plainNumber(n.Text)
	case api.NodeBool:
		return n.Text == "true" || n.Text == "false"
	case api.NodeUnary:
		return n.Text == "-" || n.Text == "not"
	case api.NodeBinary:
		return operator(n.Text)
	}
	return n.Text == ""
}

// plainNumber reports whether a string is a number without leading zeros.
func plainNumber(s string) bool {
	_, ok := lexer.Number(s)
	return ok && (s == "0" || s[0] != '0')
}

// operator reports whether a string is an operator with two operands.
func operator(s string) bool {
	switch s {
	case "or", "and", "==", "!=", "<", "<=", ">", ">=", "+", "-", "*", "/", "%":
		return true
	}
	return false
}
