package parser

import "assessor/api"

// startsPrimary reports whether the next token can begin a primary.
func (p *parser) startsPrimary() bool {
	return p.kind() == api.TokenName || p.kind() == api.TokenNumber || p.is("true", "false", "len", "(", "[")
}

// optionalExpression reads an expression, if the next token can begin one.
func (p *parser) optionalExpression() api.Node {
	if p.startsPrimary() || p.is("not", "-") {
		return p.expression()
	}
	return p.none()
}

func (p *parser) expression() api.Node { return p.binary(many, p.conjunction, "or") }

func (p *parser) conjunction() api.Node { return p.binary(many, p.negation, "and") }

func (p *parser) negation() api.Node { return p.unary("not", p.comparison) }

func (p *parser) comparison() api.Node {
	return p.binary(once, p.sum, "==", "!=", "<", "<=", ">", ">=")
}

func (p *parser) sum() api.Node { return p.binary(many, p.product, "+", "-") }

func (p *parser) product() api.Node { return p.binary(many, p.negative, "*", "/", "%") }

func (p *parser) negative() api.Node { return p.unary("-", p.primary) }

// How many operators of a level there can be between operands. Comparisons do not associate.
const (
	once = 1
	many = api.MaxSource
)

// binary reads operands with at most some operators of a level between them, from left to right.
func (p *parser) binary(most int, operand func() api.Node, operators ...string) api.Node {
	first := p.at
	n := operand()
	for range most {
		if !p.is(operators...) {
			break
		}
		operator := p.next()
		n = p.node(api.NodeBinary, operator, first, n, operand())
	}
	return n
}

// unary reads an operand with any number of an operator in front of it.
func (p *parser) unary(operator string, operand func() api.Node) api.Node {
	first := p.at
	if !p.take(operator) {
		return operand()
	}
	return p.node(api.NodeUnary, operator, first, p.unary(operator, operand))
}

func (p *parser) primary() api.Node {
	first := p.at
	switch {
	case p.kind() == api.TokenNumber:
		return p.node(api.NodeNumber, p.number(), first)
	case p.is("true", "false"):
		return p.node(api.NodeBool, p.next(), first)
	case p.is("len"):
		return p.length()
	case p.is("["):
		return p.array()
	case p.take("("):
		n := p.expression()
		p.demand(")")
		return n
	case p.kind() != api.TokenName:
		p.report(api.DiagExpression, "")
		return p.node(api.NodeError, "", first)
	case p.words[p.at+1] == "(":
		name := p.name()
		return p.node(api.NodeCall, name, first, p.enclosed(p.expression)...)
	}
	return p.place()
}

func (p *parser) length() api.Node {
	first := p.at
	p.demand("len")
	p.demand("(")
	array := p.variableName()
	p.demand(")")
	return p.node(api.NodeLen, "", first, array)
}

func (p *parser) array() api.Node {
	first := p.at
	p.demand("[")
	elements := p.list(p.expression)
	p.demand("]")
	return p.node(api.NodeList, "", first, elements...)
}

// place reads what a value can be assigned to.
func (p *parser) place() api.Node {
	first := p.at
	variable := p.variableName()
	switch {
	case p.take("["):
		index := p.expression()
		p.demand("]")
		return p.node(api.NodeIndex, "", first, variable, index)
	case p.take("."):
		return p.node(api.NodeMember, p.name(), first, variable)
	}
	return variable
}

func (p *parser) variableName() api.Node {
	first := p.at
	return p.node(api.NodeName, p.name(), first)
}
