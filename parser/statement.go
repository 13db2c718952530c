package parser

import "assessor/api"

// block reads statements in braces. If it does not begin, what follows is left to the block around it.
func (p *parser) block() api.Node {
	first := p.at
	if !p.is("{") {
		p.demand("{")
		return p.node(api.NodeBlock, "", first)
	}
	p.next()
	var kids []api.Node
	for !p.is("}", "proc", "record") && p.kind() != api.TokenEnd {
		kids = append(kids, p.statement())
	}
	p.demand("}")
	return p.node(api.NodeBlock, "", first, kids...)
}

func (p *parser) statement() api.Node {
	switch {
	case p.is("var"):
		return p.variable()
	case p.is("if"):
		return p.choice()
	case p.is("while"):
		return p.while()
	case p.is("for"):
		return p.loop()
	case p.is("return"):
		return p.result()
	case p.is("assert"):
		return p.assertion()
	case p.kind() != api.TokenName:
		return p.skipStatement()
	case p.words[p.at+1] == "(":
		return p.call()
	}
	return p.assignment()
}

// skipStatement reads tokens that are no statement, up to where the next one can begin.
func (p *parser) skipStatement() api.Node {
	first := p.at
	p.report(api.DiagStatement, "")
	for p.kind() != api.TokenEnd && !p.is("}", "proc", "record", "var", "if", "while", "for", "return", "assert") {
		if p.next() == ";" {
			break
		}
	}
	return p.node(api.NodeError, "", first)
}

func (p *parser) variable() api.Node {
	first := p.at
	p.demand("var")
	name := p.name()
	kind := p.optionalType()
	p.demand("=")
	value := p.expression()
	p.demand(";")
	return p.node(api.NodeVar, name, first, kind, value)
}

func (p *parser) assignment() api.Node {
	first := p.at
	place := p.place()
	p.demand("=")
	value := p.expression()
	p.demand(";")
	return p.node(api.NodeAssign, "", first, place, value)
}

func (p *parser) choice() api.Node {
	first := p.at
	p.demand("if")
	condition := p.expression()
	then := p.block()
	return p.node(api.NodeIf, "", first, condition, then, p.otherwise())
}

// otherwise reads what is done if a condition does not hold.
func (p *parser) otherwise() api.Node {
	switch {
	case !p.take("else"):
		return p.none()
	case p.is("if"):
		return p.choice()
	}
	return p.block()
}

func (p *parser) while() api.Node {
	first := p.at
	p.demand("while")
	condition := p.expression()
	return p.node(api.NodeWhile, "", first, condition, p.block())
}

func (p *parser) loop() api.Node {
	first := p.at
	p.demand("for")
	name := p.name()
	p.demand("=")
	from := p.expression()
	p.demand("to")
	to := p.expression()
	return p.node(api.NodeFor, name, first, from, to, p.block())
}

func (p *parser) result() api.Node {
	first := p.at
	p.demand("return")
	value := p.optionalExpression()
	p.demand(";")
	return p.node(api.NodeReturn, "", first, value)
}

func (p *parser) assertion() api.Node {
	first := p.at
	p.demand("assert")
	condition := p.expression()
	p.demand(";")
	return p.node(api.NodeAssert, "", first, condition)
}

func (p *parser) call() api.Node {
	first := p.at
	name := p.name()
	arguments := p.enclosed(p.expression)
	p.demand(";")
	return p.node(api.NodeDo, name, first, arguments...)
}
