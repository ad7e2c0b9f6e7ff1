package shape

import "plexus/api"

// expression is about an expression.
func (c checker) expression(n api.Node) bool {
	switch n.Kind {
	case api.NodeInt:
		return integer(n)
	case api.NodeQuote:
		return quote(n)
	case api.NodeTrue, api.NodeFalse, api.NodeState, api.NodeBottom:
		return isBare(n) && len(n.Kids) == 0
	case api.NodeName:
		return c.isNamed(n) && len(n.Kids) == 0
	case api.NodeField:
		return c.isNamed(n) && c.operands(n, 1)
	case api.NodeNot:
		return isBare(n) && c.operands(n, 1)
	case api.NodeIf:
		return isBare(n) && c.operands(n, 3)
	case api.NodeOr, api.NodeAnd, api.NodeLessEq, api.NodeLess, api.NodeEqual, api.NodeIn, api.NodeLeq, api.NodeJoin, api.NodePlus, api.NodeMinus, api.NodeIndex:
		return isBare(n) && c.operands(n, 2)
	case api.NodeCall:
		return n.N == 0 && c.call(n)
	}
	return false
}

// operands is about a node whose kids are expressions, of which there are so many.
func (c checker) operands(n api.Node, count int) bool {
	return len(n.Kids) == count && every(n.Kids, c.expression)
}

// call is about the function and the arguments of a call.
func (c checker) call(n api.Node) bool {
	switch n.Text {
	case "rec":
		return every(n.Kids, c.field)
	case "map":
		return every(n.Kids, c.entry)
	case "flag", "num", "set", "pair", "one", "write", "size", "sum", "number", "on", "keys", "values", "first", "second", "conflict":
		return every(n.Kids, c.expression)
	}
	return false
}

// field is about an argument of rec.
func (c checker) field(n api.Node) bool {
	return n.Kind == api.NodeEntry && c.isNamed(n) && c.operands(n, 1)
}

// entry is about an argument of map.
func (c checker) entry(n api.Node) bool {
	return n.Kind == api.NodeEntry && isBare(n) && c.operands(n, 2)
}
