package shape

import (
	"slices"

	"plexus/api"
)

// lattice is about a lattice.
func (c checker) lattice(n api.Node) bool {
	if n.Kind == api.NodeNamed {
		return c.isNamed(n) && len(n.Kids) == 0
	}
	return isBare(n) && c.parts(n)
}

// parts is about the kids of a lattice that is not a name.
func (c checker) parts(n api.Node) bool {
	count := len(n.Kids)
	switch n.Kind {
	case api.NodeFlag, api.NodeRegister:
		return count == 0
	case api.NodeSet, api.NodeFlat:
		return every(n.Kids, quote)
	case api.NodeMax, api.NodeMin:
		return count == 2 && every(n.Kids, integer)
	case api.NodeMap:
		return count > 0 && every(n.Kids[:count-1], quote) && c.lattice(n.Kids[count-1])
	case api.NodeLex:
		return count == 2 && every(n.Kids, c.lattice)
	case api.NodeProduct:
		return count > 0 && every(n.Kids, c.member)
	case api.NodeClosed:
		return closed(n.Kids)
	}
	return false
}

// member is about a field of a product.
func (c checker) member(n api.Node) bool {
	return n.Kind == api.NodeMember && c.isNamed(n) && len(n.Kids) == 1 && c.lattice(n.Kids[0])
}

// closed is about the kids of closed sets: names, and rules behind them.
func closed(kids []api.Node) bool {
	rules := slices.IndexFunc(kids, func(kid api.Node) bool { return kid.Kind == api.NodeRule })
	if rules < 0 {
		rules = len(kids)
	}
	return every(kids[:rules], quote) && every(kids[rules:], rule)
}

// rule is about a rule, whose last kid is the conclusion.
func rule(n api.Node) bool {
	return n.Kind == api.NodeRule && isBare(n) && len(n.Kids) > 0 && every(n.Kids, quote)
}
