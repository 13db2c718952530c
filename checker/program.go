package checker

import (
	"slices"

	"assessor/api"
	"assessor/tree"
	"assessor/types"
)

// listed is a node with the numbers of its kids, and of the procedure that contains it.
type listed struct {
	api.Node
	kids      []int
	procedure int
}

// list returns the nodes of a program by their numbers.
func list(n api.Node) []listed {
	var l []listed
	procedure := 0
	var add func(api.Node) int
	add = func(n api.Node) int {
		number := len(l)
		if n.Kind == api.NodeProcedure {
			procedure = number
		}
		l = append(l, listed{Node: n, procedure: procedure})
		var kids []int
		for _, k := range n.Kids {
			kids = append(kids, add(k))
		}
		l[number].kids = kids
		return number
	}
	add(n)
	return l
}

// checked is a tree, and what is known of it.
type checked struct {
	nodes []listed
	names api.Resolution
	types []api.Type // of the nodes
}

// declaration returns the declaration that a node makes or uses, and false if there is none.
func (c *checked) declaration(number int) (api.Declaration, bool) {
	if i := c.names.Uses[number]; i >= 0 {
		return c.names.Declarations[i], true
	}
	return api.Declaration{}, false
}

// hasResult reports whether a procedure has a result.
func (c *checked) hasResult(procedure int) bool {
	return c.nodes[c.nodes[procedure].kids[1]].Kind != api.NodeNone
}

// parameters returns the numbers of the parameters of a procedure.
func (c *checked) parameters(procedure int) []int {
	return c.nodes[c.nodes[procedure].kids[0]].kids
}

// calls returns for each procedure the numbers of those that it calls, in the order of the calls.
func (c *checked) calls() map[int][]int {
	l := map[int][]int{}
	for number, k := range c.nodes {
		if k.Kind != api.NodeDo && k.Kind != api.NodeCall {
			continue
		}
		if d, ok := c.declaration(number); ok && d.Kind == api.DeclProcedure {
			l[k.procedure] = append(l[k.procedure], d.Node)
		}
	}
	return l
}

// program returns the checked program of a tree without diagnostics of names, types and rules.
func (c *checked) program(n api.Node) api.Program {
	copied, _ := tree.Get(n)
	p := api.Program{Tree: copied, Records: types.Records(n)}
	p.Procedures = c.procedures(p.Records)
	index := map[int]int{}
	for _, x := range p.Procedures {
		for i, v := range x.Variables {
			index[v.Node] = i
		}
	}
	for number, k := range c.nodes {
		variable := -1
		if d, ok := c.declaration(number); ok && isVariable(d) {
			variable = index[d.Node]
		}
		p.Names = append(p.Names, variable)
		t := c.types[number]
		if !isExpression(k.Node) {
			t = api.Type{}
		}
		p.Types = append(p.Types, t)
	}
	return p
}

func isVariable(d api.Declaration) bool {
	return d.Kind == api.DeclParameter || d.Kind == api.DeclVariable || d.Kind == api.DeclLoop
}

func isExpression(n api.Node) bool { return api.NodeName <= n.Kind && n.Kind <= api.NodeBinary }

// procedures returns the procedures of a tree.
func (c *checked) procedures(records []api.Record) []api.Procedure {
	var l []api.Procedure
	index, calls := map[int]int{}, c.calls()
	for number, k := range c.nodes {
		if k.Kind != api.NodeProcedure {
			continue
		}
		index[number] = len(l)
		x := api.Procedure{Name: k.Text, Node: number, Parameters: len(c.parameters(number))}
		x.Result, _ = types.Written(k.Kids[1], records)
		x.Variables, x.Slots = types.Layout(records, c.variables(number)...)
		l = append(l, x)
	}
	for i := range l {
		for _, called := range calls[l[i].Node] {
			l[i].Calls = append(l[i].Calls, index[called])
		}
		slices.Sort(l[i].Calls)
		l[i].Calls = slices.Compact(l[i].Calls)
	}
	return l
}

// variables returns the variables of a procedure, in the order of their nodes.
func (c *checked) variables(procedure int) []api.Variable {
	var l []api.Variable
	for _, d := range c.names.Declarations {
		if !isVariable(d) || d.Owner != procedure {
			continue
		}
		kind := c.nodes[d.Node].Kind
		l = append(l, api.Variable{
			Name: d.Name, Type: c.types[d.Node], Node: d.Node,
			Var: kind == api.NodeVarParameter, Loop: kind == api.NodeFor,
		})
	}
	return l
}
