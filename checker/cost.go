package checker

import (
	"strconv"

	"assessor/api"
	"assessor/tree"
)

// coster computes the costs of nodes, for loops that run at most so often; the costs of the procedures that they call are known.
type coster struct {
	loops  int
	called map[string]int
}

// Cost returns the cost of a procedure.
func Cost(p api.Program, procedure, loops int) (int, api.Errno) {
	switch {
	case procedure < 0 || procedure >= len(p.Procedures):
		return 0, api.ErrNotFound
	case loops < 0 || loops > api.MaxLoops:
		return 0, api.ErrRange
	}
	c := coster{loops, map[string]int{}}
	for _, i := range Order(p) {
		c.called[p.Procedures[i].Name] = c.cost(declared(p, i))
	}
	return c.called[p.Procedures[procedure].Name], api.OK
}

// cost returns the cost of a node.
func (c coster) cost(n api.Node) int {
	var kids []int
	sum := 0
	for _, k := range n.Kids {
		cost := c.cost(k)
		kids = append(kids, cost)
		sum += cost
	}
	switch n.Kind {
	case api.NodeVar, api.NodeAssign, api.NodeIf, api.NodeReturn, api.NodeAssert:
		sum++
	case api.NodeDo:
		sum += 2 + c.called[n.Text]
	case api.NodeCall:
		// The values of records cost nothing.
		if cost, ok := c.called[n.Text]; ok {
			sum += 1 + cost
		}
	case api.NodeWhile:
		sum = 1 + (c.loops+1)*kids[0] + c.loops*(1+kids[1])
	case api.NodeFor:
		sum = 1 + kids[0] + kids[1] + c.loops*(1+kids[2])
	}
	return min(sum, api.MaxCost+1)
}

// Safe reports whether the expression with a number cannot fault.
func Safe(p api.Program, number int) bool {
	path, ok := tree.Path(p.Tree, number)
	if !ok {
		return false
	}
	n, _ := tree.Get(p.Tree, path...)
	if !tree.Expression(n) {
		return false
	}
	for i, k := range list(n) {
		if !harmless(p, number+i, k.Node) {
			return false
		}
	}
	return true
}

// harmless reports whether the node of an expression with a number cannot fault if its kids do not.
func harmless(p api.Program, number int, n api.Node) bool {
	switch n.Kind {
	case api.NodeBinary:
		return n.Text != "/" && n.Text != "%"
	case api.NodeCall:
		_, procedure := Find(p, n.Text)
		return !procedure
	case api.NodeIndex:
		if n.Kids[1].Kind != api.NodeNumber {
			return false
		}
		// The array is the first kid, and so the next node.
		index, _ := strconv.Atoi(n.Kids[1].Text)
		return index <= 1 && index < p.Types[number+1].Len
	}
	return true
}
