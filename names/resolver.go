package names

import (
	"assessor/api"
	"assessor/tree"
)

// resolver goes through the nodes of a program in the order of their numbers. Until it is done, a declaration is known by the number of its node, since records, procedures and fields are used in front of their declarations, too.
type resolver struct {
	*table                                     // the variables that are visible
	records, procedures, fields map[string]int // the nodes that declare what is visible everywhere
	owner                       int            // the procedure
	declarations                []api.Declaration
	uses                        []int // for each node the one that declares its name, or -1
	problems                    []api.Diagnostic
	wanted                      int   // the node for which the visible variables are wanted, or -1
	found                       []int // these variables
}

func newResolver(n api.Node) *resolver {
	r := &resolver{table: newTable(), wanted: -1}
	r.records, r.procedures, r.fields = map[string]int{}, map[string]int{}, map[string]int{}
	number := 1
	for _, k := range n.Kids {
		r.collect(k, number)
		number += tree.Count(k)
	}
	return r
}

// collect notes the names that a record or a procedure declares everywhere. The first node with a name declares it.
func (r *resolver) collect(n api.Node, number int) {
	if n.Kind == api.NodeProcedure {
		r.note(r.procedures, n.Text, number)
		return
	}
	r.note(r.records, n.Text, number)
	number++
	for _, field := range n.Kids {
		if _, ok := r.fields[field.Text]; !ok {
			r.fields[field.Text] = number
		}
		number += tree.Count(field)
	}
}

// note adds a record or a procedure to those of its kind, unless one of either kind has its name.
func (r *resolver) note(l map[string]int, name string, number int) {
	if !r.global(name) {
		l[name] = number
	}
}

// global reports whether a record or a procedure has a name.
func (r *resolver) global(name string) bool {
	_, record := r.records[name]
	_, procedure := r.procedures[name]
	return record || procedure
}

// next returns the number of the next node.
func (r *resolver) next() int {
	r.uses = append(r.uses, -1)
	return len(r.uses) - 1
}

func (r *resolver) program(n api.Node) {
	r.next()
	for _, k := range n.Kids {
		if k.Kind == api.NodeRecord {
			r.record(k)
		} else {
			r.procedure(k)
		}
	}
}

func (r *resolver) record(n api.Node) {
	number := r.next()
	r.declare(n, api.Declaration{Kind: api.DeclRecord, Node: number, Owner: -1}, r.records[n.Text] == number)
	for _, field := range n.Kids {
		at := r.next()
		r.declare(field, api.Declaration{Kind: api.DeclField, Node: at, Owner: number}, r.fields[field.Text] == at)
		r.mention(field.Kids[0])
	}
}

func (r *resolver) procedure(n api.Node) {
	r.owner = r.next()
	r.declare(n, api.Declaration{Kind: api.DeclProcedure, Node: r.owner, Owner: -1}, r.procedures[n.Text] == r.owner)
	r.within(func() {
		r.next()
		for _, parameter := range n.Kids[0].Kids {
			number := r.next()
			if r.variable(parameter, number, api.DeclParameter) {
				r.bind(parameter.Text, number)
			}
			r.mention(parameter.Kids[0])
		}
		r.mention(n.Kids[1])
		r.visit(n.Kids[2])
	})
}

// mention resolves the name of a type outside of blocks.
func (r *resolver) mention(n api.Node) { r.use(n, r.next()) }

// visit resolves the names of a block, or of a node in one, and of all that is below it.
func (r *resolver) visit(n api.Node) {
	number := r.next()
	if number == r.wanted {
		r.found = r.numbers()
	}
	switch n.Kind {
	case api.NodeBlock:
		r.within(func() { r.all(n.Kids) })
	case api.NodeVar:
		made := r.variable(n, number, api.DeclVariable)
		r.all(n.Kids)
		// Its own expression, which has been visited, does not see it.
		if made {
			r.bind(n.Text, number)
		}
	case api.NodeFor:
		made := r.variable(n, number, api.DeclLoop)
		r.all(n.Kids[:2])
		r.within(func() {
			if made {
				r.bind(n.Text, number)
			}
			r.visit(n.Kids[2])
		})
	default:
		r.use(n, number)
		r.all(n.Kids)
	}
}

func (r *resolver) all(l []api.Node) {
	for _, n := range l {
		r.visit(n)
	}
}

// variable declares a variable of the procedure, and reports whether it has become one.
func (r *resolver) variable(n api.Node, number, kind int) bool {
	possible := !r.has(n.Text) && !r.global(n.Text)
	r.declare(n, api.Declaration{Kind: kind, Node: number, Owner: r.owner}, possible)
	return possible
}

// declare adds the declaration of a node if its name is not declared already.
func (r *resolver) declare(n api.Node, d api.Declaration, possible bool) {
	if !possible {
		r.problem(api.DiagDeclared, n)
		return
	}
	d.Name = n.Text
	r.declarations = append(r.declarations, d)
	r.uses[d.Node] = d.Node
}

// use finds the declaration that a node uses, if its kind uses one.
func (r *resolver) use(n api.Node, number int) {
	switch n.Kind {
	case api.NodeName:
		r.refer(n, number, r.bound)
	case api.NodeMember:
		r.refer(n, number, r.fields)
	case api.NodeCall:
		r.refer(n, number, r.procedures, r.records)
	case api.NodeDo:
		r.refer(n, number, r.procedures)
	case api.NodeType:
		if n.Text != "int" && n.Text != "bool" {
			r.refer(n, number, r.records)
		}
	}
}

// refer looks a name up in maps, of which no two have it.
func (r *resolver) refer(n api.Node, number int, l ...map[string]int) {
	for _, declared := range l {
		if d, ok := declared[n.Text]; ok {
			r.uses[number] = d
			return
		}
	}
	r.problem(api.DiagUnknown, n)
}

func (r *resolver) problem(code int, n api.Node) {
	r.problems = append(r.problems, api.Diagnostic{Code: code, At: n.At, End: n.End, Text: n.Text})
}

// indices returns the indices of the declarations that nodes make, and -1 for -1.
func (r *resolver) indices(numbers []int) []int {
	index := map[int]int{-1: -1}
	for i, d := range r.declarations {
		index[d.Node] = i
	}
	var l []int
	for _, number := range numbers {
		l = append(l, index[number])
	}
	return l
}
