package printer

import "plexus/api"

// The levels of expressions. A place that requires a level takes an expression of a lower one in parentheses.
const (
	levelIf = iota
	levelOr
	levelAnd
	levelNot
	levelComparison
	levelJoin
	levelSum
	levelPostfix
	levelPrimary
)

// level returns the level of the expressions of a kind.
func level(kind int) int {
	switch kind {
	case api.NodeIf:
		return levelIf
	case api.NodeOr:
		return levelOr
	case api.NodeAnd:
		return levelAnd
	case api.NodeNot:
		return levelNot
	case api.NodeLessEq, api.NodeLess, api.NodeEqual, api.NodeIn, api.NodeLeq:
		return levelComparison
	case api.NodeJoin:
		return levelJoin
	case api.NodePlus, api.NodeMinus:
		return levelSum
	case api.NodeField, api.NodeIndex:
		return levelPostfix
	}
	return levelPrimary
}

// operand prints an expression at a place that requires a level.
func (p *printer) operand(n api.Node, required int) {
	if level(n.Kind) >= required {
		p.expression(n)
		return
	}
	p.enter("(")
	p.expression(n)
	p.leave(")")
}

// expression prints an expression without parentheses around it.
func (p *printer) expression(n api.Node) {
	if p.over {
		return
	}
	switch n.Kind {
	case api.NodeTrue, api.NodeFalse, api.NodeState, api.NodeBottom:
		p.put(p.words[n.Kind])
	case api.NodeInt:
		p.integer(n)
	case api.NodeQuote:
		p.quote(n)
	case api.NodeName:
		p.put(n.Text)
	case api.NodeIf:
		p.choice(n.Kids)
	case api.NodeNot:
		p.enter("not ")
		p.operand(n.Kids[0], levelNot)
		p.leave()
	case api.NodeField:
		p.operand(n.Kids[0], levelPostfix)
		p.put(".", n.Text)
	case api.NodeIndex:
		p.operand(n.Kids[0], levelPostfix)
		p.enter("[")
		p.expression(n.Kids[1])
		p.leave("]")
	case api.NodeCall:
		p.enter(n.Text, "(")
		p.list(n.Kids, p.argument)
		p.leave(")")
	default:
		p.binary(n)
	}
}

// choice prints an if with its three expressions.
func (p *printer) choice(kids []api.Node) {
	p.enter("if ")
	p.expression(kids[0])
	p.put(" then ")
	p.expression(kids[1])
	p.put(" else ")
	p.expression(kids[2])
	p.leave()
}

// binary prints a binary operator with its operands. All but the comparisons associate to the left.
func (p *printer) binary(n api.Node) {
	own := level(n.Kind)
	left := own
	if own == levelComparison {
		left++
	}
	p.operand(n.Kids[0], left)
	p.put(" ", p.words[n.Kind], " ")
	p.operand(n.Kids[1], own+1)
}

// argument prints an argument of a call.
func (p *printer) argument(n api.Node) {
	if n.Kind != api.NodeEntry {
		p.expression(n)
		return
	}
	value := n.Kids[0]
	if len(n.Kids) > 1 {
		p.expression(value)
		value = n.Kids[1]
	}
	p.put(n.Text, ": ")
	p.expression(value)
}
