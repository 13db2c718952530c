package parser

import "assessor/api"

// program reads the whole text.
func (p *parser) program() api.Node {
	var kids []api.Node
	for p.kind() != api.TokenEnd {
		switch {
		case p.is("record"):
			kids = append(kids, p.record())
		case p.is("proc"):
			kids = append(kids, p.procedure())
		default:
			kids = append(kids, p.skipDeclaration())
		}
	}
	return p.node(api.NodeProgram, "", 0, kids...)
}

// skipDeclaration reads tokens on the outermost level that are no declaration.
func (p *parser) skipDeclaration() api.Node {
	first := p.at
	p.report(api.DiagDeclaration, "")
	for p.kind() != api.TokenEnd && !p.is("proc", "record") {
		p.next()
	}
	return p.node(api.NodeError, "", first)
}

func (p *parser) record() api.Node {
	first := p.at
	p.demand("record")
	name := p.name()
	p.demand("{")
	fields := p.list(p.field)
	p.demand("}")
	return p.node(api.NodeRecord, name, first, fields...)
}

func (p *parser) field() api.Node {
	first := p.at
	name := p.name()
	p.demand(":")
	return p.node(api.NodeField, name, first, p.fieldType())
}

// fieldType reads the type of a field, which is neither an array nor a record.
func (p *parser) fieldType() api.Node {
	first := p.at
	if !p.is("int", "bool") {
		return p.missingType()
	}
	return p.node(api.NodeType, p.next(), first)
}

func (p *parser) procedure() api.Node {
	first := p.at
	p.demand("proc")
	name := p.name()
	parameters := p.parameters()
	result := p.optionalType()
	return p.node(api.NodeProcedure, name, first, parameters, result, p.block())
}

func (p *parser) parameters() api.Node {
	first := p.at
	return p.node(api.NodeParameters, "", first, p.enclosed(p.parameter)...)
}

func (p *parser) parameter() api.Node {
	first, kind := p.at, api.NodeParameter
	if p.take("var") {
		kind = api.NodeVarParameter
	}
	name := p.name()
	return p.node(kind, name, first, p.optionalType())
}

// optionalType reads a colon and a type, if they are there.
func (p *parser) optionalType() api.Node {
	if !p.take(":") {
		return p.none()
	}
	return p.anyType()
}

func (p *parser) anyType() api.Node {
	first := p.at
	switch {
	case p.is("bool") || p.kind() == api.TokenName:
		return p.node(api.NodeType, p.next(), first)
	case !p.take("int"):
		return p.missingType()
	case !p.take("["):
		return p.node(api.NodeType, "int", first)
	}
	size := p.number()
	p.demand("]")
	return p.node(api.NodeArrayType, size, first)
}

func (p *parser) missingType() api.Node {
	p.report(api.DiagExpected, "type")
	return p.node(api.NodeError, "", p.at)
}

// enclosed reads parentheses with any number of elements.
func (p *parser) enclosed(element func() api.Node) []api.Node {
	p.demand("(")
	var l []api.Node
	if !p.is(")") {
		l = p.list(element)
	}
	p.demand(")")
	return l
}

// list reads one or more elements with commas between them.
func (p *parser) list(element func() api.Node) []api.Node {
	l := []api.Node{element()}
	for p.take(",") {
		l = append(l, element())
	}
	return l
}
