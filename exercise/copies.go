package exercise

import (
	"slices"

	"assessor/api"
)

// copied returns a program that shares no memory with another one.
func copied(p api.Program) api.Program {
	p.Tree = copiedNode(p.Tree)
	p.Types = slices.Clone(p.Types)
	p.Names = slices.Clone(p.Names)
	p.Records = slices.Clone(p.Records)
	for i, r := range p.Records {
		p.Records[i].Fields = slices.Clone(r.Fields)
	}
	p.Procedures = slices.Clone(p.Procedures)
	for i, x := range p.Procedures {
		p.Procedures[i].Variables = slices.Clone(x.Variables)
		p.Procedures[i].Calls = slices.Clone(x.Calls)
	}
	return p
}

func copiedNode(n api.Node) api.Node {
	n.Kids = slices.Clone(n.Kids)
	for i, k := range n.Kids {
		n.Kids[i] = copiedNode(k)
	}
	return n
}
