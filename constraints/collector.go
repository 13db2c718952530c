package constraints

import (
	"assessor/api"
	"assessor/types"
)

// listed is a node with the numbers of its kids.
type listed struct {
	api.Node
	kids []int
}

// list returns the nodes of a tree by their numbers.
func list(n api.Node) []listed {
	var l []listed
	var add func(api.Node) int
	add = func(n api.Node) int {
		number := len(l)
		l = append(l, listed{Node: n})
		var kids []int
		for _, k := range n.Kids {
			kids = append(kids, add(k))
		}
		l[number].kids = kids
		return number
	}
	add(n)
	return l
}

// collector collects the constraints of a program. Its vertices are the numbers of the nodes.
type collector struct {
	nodes     []listed
	records   []api.Record
	names     api.Resolution
	procedure int // the last one that was visited
	found     []api.Constraint
}

// rows returns, for each kind, a function that collects the constraints of a node with its kids.
func (c *collector) rows() map[int]func(v int, kids []int) {
	integer, truth := api.Type{Kind: api.TypeInt}, api.Type{Kind: api.TypeBool}
	some := api.Type{Kind: api.TypeSome}
	typed := func(v int, kids []int) { c.written(v, kids[0]) }
	condition := func(v int, kids []int) { c.are(truth, kids[0]) }
	return map[int]func(int, []int){
		api.NodeField:        typed,
		api.NodeParameter:    typed,
		api.NodeVarParameter: typed,
		api.NodeProcedure: func(v int, kids []int) {
			c.procedure = v
			c.written(v, kids[1])
		},
		api.NodeVar: func(v int, kids []int) {
			c.written(v, kids[0])
			c.equal(v, kids[1], v)
		},
		api.NodeAssign: func(v int, kids []int) { c.equal(kids[0], kids[1], v) },
		api.NodeIf:     condition,
		api.NodeWhile:  condition,
		api.NodeAssert: condition,
		api.NodeFor:    func(v int, kids []int) { c.are(integer, v, kids[0], kids[1]) },
		api.NodeReturn: c.result,
		api.NodeDo:     c.call,
		api.NodeCall:   c.call,
		api.NodeName:   c.name,
		api.NodeIndex: func(v int, kids []int) {
			c.are(some, kids[0])
			c.are(integer, kids[1], v)
		},
		api.NodeMember: c.member,
		api.NodeLen: func(v int, kids []int) {
			c.are(some, kids[0])
			c.are(integer, v)
		},
		api.NodeNumber: func(v int, kids []int) { c.are(integer, v) },
		api.NodeBool:   func(v int, kids []int) { c.are(truth, v) },
		api.NodeList: func(v int, kids []int) {
			c.are(integer, kids...)
			if len(kids) <= api.MaxArray {
				c.are(api.Type{Kind: api.TypeArray, Len: len(kids)}, v)
			}
		},
		api.NodeUnary: func(v int, kids []int) {
			if c.nodes[v].Text == "not" {
				c.are(truth, kids[0], v)
			} else {
				c.are(integer, kids[0], v)
			}
		},
		api.NodeBinary: func(v int, kids []int) {
			switch c.nodes[v].Text {
			case "and", "or":
				c.are(truth, kids[0], kids[1], v)
			case "==", "!=":
				c.equal(kids[0], kids[1], v)
				c.are(api.Type{Kind: api.TypeScalar}, kids[0])
				c.are(truth, v)
			case "<", "<=", ">", ">=":
				c.are(integer, kids[0], kids[1])
				c.are(truth, v)
			default:
				c.are(integer, kids[0], kids[1], v)
			}
		},
	}
}

// mark adds that a vertex has a mark, because of the bytes of a node.
func (c *collector) mark(v int, t api.Type, by int) {
	n := c.nodes[by]
	c.found = append(c.found, api.Constraint{Kind: api.StepMark, A: v, Mark: t, At: n.At, End: n.End})
}

// are adds that vertices have a mark, each because of its own bytes.
func (c *collector) are(t api.Type, l ...int) {
	for _, v := range l {
		c.mark(v, t, v)
	}
}

// equal adds that two vertices have the same type, because of the bytes of a node.
func (c *collector) equal(a, b, by int) {
	n := c.nodes[by]
	c.found = append(c.found, api.Constraint{Kind: api.StepEqual, A: a, B: b, At: n.At, End: n.End})
}

// written adds that a vertex has the type that a node writes, if it exists.
func (c *collector) written(v, by int) {
	if t, ok := types.Written(c.nodes[by].Node, c.records); ok {
		c.mark(v, t, by)
	}
}

// hasResult reports whether a procedure has a type of the result, existing or not.
func (c *collector) hasResult(procedure int) bool {
	return c.nodes[c.nodes[procedure].kids[1]].Kind != api.NodeNone
}

func (c *collector) result(v int, kids []int) {
	if c.nodes[kids[0]].Kind != api.NodeNone && c.hasResult(c.procedure) {
		c.equal(kids[0], c.procedure, v)
	}
}

// declaration returns the declaration that a node uses, and false if there is none.
func (c *collector) declaration(v int) (api.Declaration, bool) {
	if i := c.names.Uses[v]; i >= 0 {
		return c.names.Declarations[i], true
	}
	return api.Declaration{}, false
}

func (c *collector) call(v int, kids []int) {
	d, ok := c.declaration(v)
	switch {
	case !ok:
	case d.Kind == api.DeclRecord:
		c.pair(kids, c.nodes[d.Node].kids)
		c.are(api.Type{Kind: api.TypeRecord, Record: d.Name}, v)
	default:
		parameters := c.nodes[d.Node].kids[0]
		c.pair(kids, c.nodes[parameters].kids)
		if c.nodes[v].Kind == api.NodeCall && c.hasResult(d.Node) {
			c.equal(v, d.Node, v)
		}
	}
}

// pair adds that arguments equal the parameters or fields with their indices, as far as there are any.
func (c *collector) pair(arguments, places []int) {
	for i := range min(len(arguments), len(places)) {
		c.equal(arguments[i], places[i], arguments[i])
	}
}

func (c *collector) name(v int, kids []int) {
	if d, ok := c.declaration(v); ok {
		c.equal(v, d.Node, v)
	}
}

func (c *collector) member(v int, kids []int) {
	if d, ok := c.declaration(v); ok {
		c.mark(kids[0], api.Type{Kind: api.TypeRecord, Record: c.nodes[d.Owner].Text}, v)
		c.equal(v, d.Node, v)
	}
}
