package checker

import (
	"slices"

	"assessor/api"
	"assessor/types"
)

// inspector goes through the nodes of a tree by the rules.
type inspector struct {
	*checked
	called                            map[int][]int // by each procedure
	earlierRecords, earlierProcedures int
	wrong                             []api.Diagnostic
}

// rules returns what the rules say of a tree.
func (c *checked) rules() []api.Diagnostic {
	i := &inspector{checked: c, called: c.calls()}
	byKind := methods()
	for number, k := range c.nodes {
		if rule, ok := byKind[k.Kind]; ok {
			rule(i, number, k)
		}
	}
	return i.wrong
}

// methods returns, for each kind of nodes, the method for its rules.
func methods() map[int]func(*inspector, int, listed) {
	return map[int]func(*inspector, int, listed){
		api.NodeRecord:       (*inspector).record,
		api.NodeProcedure:    (*inspector).procedure,
		api.NodeParameters:   (*inspector).parameterList,
		api.NodeVarParameter: (*inspector).varParameter,
		api.NodeArrayType:    (*inspector).arrayType,
		api.NodeList:         (*inspector).list,
		api.NodeAssign:       (*inspector).assign,
		api.NodeReturn:       (*inspector).result,
		api.NodeDo:           (*inspector).call,
		api.NodeCall:         (*inspector).call,
	}
}

// report adds a diagnostic with the bytes of a node if something is wrong with it.
func (i *inspector) report(wrong bool, code int, n listed) {
	if wrong {
		i.wrong = append(i.wrong, at(code, n.Node))
	}
}

func (i *inspector) record(_ int, n listed) {
	i.report(i.earlierRecords >= api.MaxRecords || len(n.kids) > api.MaxFields, api.DiagMany, n)
	i.earlierRecords++
}

func (i *inspector) procedure(number int, n listed) {
	i.report(i.earlierProcedures >= api.MaxProcedures, api.DiagMany, n)
	i.report(i.cyclic(number), api.DiagCycle, n)
	i.earlierProcedures++
}

// cyclic reports whether a procedure calls itself, directly or by others.
func (i *inspector) cyclic(procedure int) bool {
	seen := map[int]bool{}
	var reach func(from int)
	reach = func(from int) {
		for _, called := range i.called[from] {
			if !seen[called] {
				seen[called] = true
				reach(called)
			}
		}
	}
	reach(procedure)
	return seen[procedure]
}

func (i *inspector) parameterList(_ int, n listed) {
	i.report(len(n.kids) > api.MaxParameters, api.DiagMany, n)
}

func (i *inspector) varParameter(_ int, n listed) {
	i.report(i.hasResult(n.procedure), api.DiagVar, n)
}

func (i *inspector) arrayType(_ int, n listed) {
	_, ok := types.Written(n.Node, nil)
	i.report(!ok, api.DiagMany, n)
}

func (i *inspector) list(_ int, n listed) {
	i.report(len(n.kids) > api.MaxArray, api.DiagMany, n)
}

func (i *inspector) assign(_ int, n listed) {
	name := n.kids[0]
	if kids := i.nodes[name].kids; len(kids) > 0 {
		// The place is an element or a field, and its first kid is the variable.
		name = kids[0]
	}
	i.report(i.loops(name), api.DiagLoop, n)
}

// loops reports whether a node names the variable of a NodeFor.
func (i *inspector) loops(number int) bool {
	d, ok := i.declaration(number)
	return ok && d.Kind == api.DeclLoop
}

func (i *inspector) result(_ int, n listed) {
	has := i.nodes[n.kids[0]].Kind != api.NodeNone
	i.report(has != i.hasResult(n.procedure), api.DiagReturn, n)
}

func (i *inspector) call(number int, n listed) {
	d, ok := i.declaration(number)
	if !ok {
		return
	}
	if d.Kind == api.DeclRecord {
		i.report(len(n.kids) != len(i.nodes[d.Node].kids), api.DiagCount, n)
		return
	}
	parameters := i.parameters(d.Node)
	i.report(len(n.kids) != len(parameters), api.DiagCount, n)
	i.report((n.Kind == api.NodeCall) != i.hasResult(d.Node), api.DiagResult, n)
	i.arguments(n.kids, parameters)
}

// arguments checks the arguments for var parameters.
func (i *inspector) arguments(l, parameters []int) {
	var earlier []int
	for k := range min(len(l), len(parameters)) {
		if i.nodes[parameters[k]].Kind != api.NodeVarParameter {
			continue
		}
		n := i.nodes[l[k]]
		if n.Kind != api.NodeName {
			i.report(true, api.DiagArgument, n)
			continue
		}
		variable := i.names.Uses[l[k]]
		i.report(variable >= 0 && slices.Contains(earlier, variable), api.DiagArgument, n)
		i.report(i.loops(l[k]), api.DiagLoop, n)
		earlier = append(earlier, variable)
	}
}
