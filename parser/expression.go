package parser

import (
	"slices"

	"plexus/api"
)

// functions are the keywords that arguments in parentheses follow.
var functions = [...]string{
	"flag", "num", "set", "map", "rec", "pair", "one", "write", "size", "sum",
	"number", "on", "keys", "values", "first", "second", "conflict",
}

// expression returns the tree of an expression.
func (p *parser) expression() api.Node {
	if p.word() != "if" {
		return p.or()
	}
	n := api.Node{Kind: api.NodeIf, At: p.enter("if").At}
	condition := p.expression()
	p.take("then")
	yes := p.expression()
	p.take("else")
	n.Kids = []api.Node{condition, yes, p.expression()}
	p.leave()
	return n
}

// or returns the tree of operands of or.
func (p *parser) or() api.Node { return p.chain(p.and, "or") }

// and returns the tree of operands of and.
func (p *parser) and() api.Node { return p.chain(p.not, "and") }

// not returns the tree of a negation, or of an operand of one.
func (p *parser) not() api.Node {
	if p.word() != "not" {
		return p.comparison()
	}
	n := api.Node{Kind: api.NodeNot, At: p.enter("not").At}
	n.Kids = []api.Node{p.not()}
	p.leave()
	return n
}

// comparison returns the tree of a comparison, or of an operand of one.
func (p *parser) comparison() api.Node {
	n := p.joined()
	switch p.word() {
	case "<=", "<", "==", "in", "leq":
		return p.binary(n, p.joined)
	}
	return n
}

// joined returns the tree of operands of join.
func (p *parser) joined() api.Node { return p.chain(p.sum, "join") }

// sum returns the tree of operands of signs.
func (p *parser) sum() api.Node { return p.chain(p.postfix, "+", "-") }

// chain returns the tree of operands with operators between them, which associate to the left.
func (p *parser) chain(operand func() api.Node, operators ...string) api.Node {
	n := operand()
	for slices.Contains(operators, p.word()) {
		n = p.binary(n, operand)
	}
	return n
}

// binary returns the tree of the operator that comes next, the operand in front of it and the one behind it.
func (p *parser) binary(left api.Node, operand func() api.Node) api.Node {
	t := p.next()
	return api.Node{Kind: operation(t.Text), At: t.At, Kids: []api.Node{left, operand()}}
}

// operation returns the kind of the nodes of a binary operator.
func operation(operator string) int {
	switch operator {
	case "or":
		return api.NodeOr
	case "and":
		return api.NodeAnd
	case "<=":
		return api.NodeLessEq
	case "<":
		return api.NodeLess
	case "==":
		return api.NodeEqual
	case "in":
		return api.NodeIn
	case "leq":
		return api.NodeLeq
	case "join":
		return api.NodeJoin
	case "+":
		return api.NodePlus
	}
	return api.NodeMinus
}

// postfix returns the tree of an operand with fields and keys behind it.
func (p *parser) postfix() api.Node {
	n := p.primary()
	for {
		switch p.word() {
		case ".":
			at := p.next().At
			n = api.Node{Kind: api.NodeField, Text: p.takeKind(api.TokName).Text, At: at, Kids: []api.Node{n}}
		case "[":
			at := p.enter("[").At
			n = api.Node{Kind: api.NodeIndex, At: at, Kids: []api.Node{n, p.expression()}}
			p.take("]")
			p.leave()
		default:
			return n
		}
	}
}

// primary returns the tree of an operand without operators, unless they are in parentheses.
func (p *parser) primary() api.Node {
	switch p.peek().Kind {
	case api.TokQuoted:
		return p.quote()
	case api.TokName:
		return p.name(api.NodeName)
	}
	word := p.word()
	switch word {
	case "true":
		return p.bare(api.NodeTrue)
	case "false":
		return p.bare(api.NodeFalse)
	case "s":
		return p.bare(api.NodeState)
	case "bottom":
		return p.bare(api.NodeBottom)
	case "(":
		return p.parenthesized()
	}
	for _, function := range functions {
		if word == function {
			return p.call()
		}
	}
	return p.integer()
}

// parenthesized returns the tree of an expression in parentheses.
func (p *parser) parenthesized() api.Node {
	p.enter("(")
	n := p.expression()
	p.take(")")
	p.leave()
	return n
}

// call returns the tree of a call.
func (p *parser) call() api.Node {
	function := p.next()
	n := api.Node{Kind: api.NodeCall, Text: function.Text, At: function.At}
	p.enter("(")
	if p.word() != ")" {
		n.Kids = p.list(p.argument(function.Text))
	}
	p.take(")")
	p.leave()
	return n
}

// argument returns what reads an argument of a function.
func (p *parser) argument(function string) func() api.Node {
	switch function {
	case "rec":
		return p.field
	case "map":
		return p.entry
	}
	return p.expression
}

// field returns the tree of an argument of rec.
func (p *parser) field() api.Node {
	return p.labelled(api.NodeEntry, p.expression)
}

// entry returns the tree of an argument of map.
func (p *parser) entry() api.Node {
	n := api.Node{Kind: api.NodeEntry, At: p.peek().At}
	key := p.expression()
	p.take(":")
	n.Kids = []api.Node{key, p.expression()}
	return n
}
