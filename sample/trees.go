package sample

import "plexus/api"

// Trees makes random syntax trees of all forms. The types of their expressions do not fit, as a rule.
type Trees struct {
	Intn   func(n int) int // decides everything
	Names  []string        // the names that occur without quotes
	Quotes []string        // those that occur in quotes
}

// Program returns the tree of a program.
func (t Trees) Program(depth int) api.Node {
	return t.node(api.NodeProgram, "", t.several(0, 4, func() api.Node { return t.declaration(depth) })...)
}

// declaration returns the tree of a declaration.
func (t Trees) declaration(depth int) api.Node {
	kind := api.NodeLattice + t.Intn(4)
	if kind == api.NodeLattice || kind == api.NodeObject {
		return t.node(kind, t.name(), t.Lattice(depth))
	}
	params := t.several(0, 3, func() api.Node {
		p := t.node(api.NodeParam, t.name())
		p.N = t.sort()
		return p
	})
	n := t.node(kind, t.name(), append(params, t.node(api.NodeName, t.name()), t.Expression(depth))...)
	if kind == api.NodeQuery {
		n.N = t.sort()
	}
	return n
}

// Lattice returns the tree of a lattice.
func (t Trees) Lattice(depth int) api.Node {
	if depth > 0 {
		switch t.Intn(3) {
		case 0:
			return t.node(api.NodeMap, "", append(t.several(0, 3, t.quote), t.Lattice(depth-1))...)
		case 1:
			return t.node(api.NodeLex, "", t.Lattice(depth-1), t.Lattice(depth-1))
		}
		return t.node(api.NodeProduct, "", t.several(1, 3, func() api.Node { return t.node(api.NodeMember, t.name(), t.Lattice(depth-1)) })...)
	}
	switch kind := []int{api.NodeFlag, api.NodeRegister, api.NodeNamed, api.NodeSet, api.NodeFlat, api.NodeMax, api.NodeMin, api.NodeClosed}[t.Intn(8)]; kind {
	case api.NodeNamed:
		return t.node(kind, t.name())
	case api.NodeSet, api.NodeFlat:
		return t.node(kind, "", t.several(0, 3, t.quote)...)
	case api.NodeMax, api.NodeMin:
		return t.node(kind, "", t.integer(), t.integer())
	case api.NodeClosed:
		rule := func() api.Node { return t.node(api.NodeRule, "", t.several(1, 3, t.quote)...) }
		return t.node(kind, "", append(t.several(0, 3, t.quote), t.several(0, 3, rule)...)...)
	default:
		return t.node(kind, "")
	}
}

// Expression returns the tree of an expression.
func (t Trees) Expression(depth int) api.Node {
	if depth <= 0 {
		return t.leaf()
	}
	one := func() api.Node { return t.Expression(depth - 1) }
	switch kind := api.NodeIf + t.Intn(14); kind {
	case api.NodeIf:
		return t.node(kind, "", one(), one(), one())
	case api.NodeNot:
		return t.node(kind, "", one())
	case api.NodeField:
		return t.node(kind, t.name(), one())
	default:
		if t.Intn(3) == 0 {
			return t.call(one)
		}
		return t.node(kind, "", one(), one())
	}
}

// call returns the tree of a call whose arguments consist of expressions.
func (t Trees) call(one func() api.Node) api.Node {
	function := []string{"rec", "map", "flag", "num", "set", "pair", "one", "write", "size", "sum", "number", "on", "keys", "values", "first", "second", "conflict"}[t.Intn(17)]
	argument := one
	switch function {
	case "rec":
		argument = func() api.Node { return t.node(api.NodeEntry, t.name(), one()) }
	case "map":
		argument = func() api.Node { return t.node(api.NodeEntry, "", one(), one()) }
	}
	return t.node(api.NodeCall, function, t.several(0, 3, argument)...)
}

// leaf returns the tree of an expression without parts.
func (t Trees) leaf() api.Node {
	switch kind := []int{api.NodeInt, api.NodeTrue, api.NodeFalse, api.NodeQuote, api.NodeName, api.NodeState, api.NodeBottom}[t.Intn(7)]; kind {
	case api.NodeInt:
		return t.integer()
	case api.NodeQuote:
		return t.quote()
	case api.NodeName:
		return t.node(kind, t.name())
	default:
		return t.node(kind, "")
	}
}

// node returns a node with any offset.
func (t Trees) node(kind int, text string, kids ...api.Node) api.Node {
	return api.Node{Kind: kind, Text: text, At: t.Intn(2000) - 100, Kids: kids}
}

// several returns at least the least and at most the greatest number of nodes.
func (t Trees) several(least, greatest int, one func() api.Node) []api.Node {
	var list []api.Node
	for range least + t.Intn(greatest-least+1) {
		list = append(list, one())
	}
	return list
}

// quote returns a quoted name.
func (t Trees) quote() api.Node { return t.node(api.NodeQuote, t.Quotes[t.Intn(len(t.Quotes))]) }

// name returns a name.
func (t Trees) name() string { return t.Names[t.Intn(len(t.Names))] }

// sort returns a sort.
func (t Trees) sort() int64 { return int64(api.SortInt + t.Intn(4)) }

// integer returns an integer.
func (t Trees) integer() api.Node {
	n := t.node(api.NodeInt, "")
	n.N = []int64{0, 1, 2, 9, -1, -7, 1000000000, 1000000001, api.MaxNumber, -api.MaxNumber}[t.Intn(10)]
	return n
}
