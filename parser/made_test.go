package parser_test

import "plexus/api"

// The constructs of a maker.

// program writes a program.
func (m *maker) program(depth int) api.Node {
	n := api.Node{Kind: api.NodeProgram}
	for range m.source.Intn(4) {
		n.Kids = append(n.Kids, m.declaration(depth))
		m.put(";")
	}
	return n
}

// declaration writes a declaration without its last sign.
func (m *maker) declaration(depth int) api.Node {
	kind := api.NodeLattice + m.source.Intn(4)
	n := api.Node{Kind: kind, At: m.put([]string{"lattice", "object", "update", "query"}[kind-api.NodeLattice])}
	n.Text, _ = m.putName()
	if kind == api.NodeLattice || kind == api.NodeObject {
		m.put([]string{"=", ":"}[kind-api.NodeLattice])
		n.Kids = []api.Node{m.lattice(depth)}
		return n
	}
	m.put("(")
	n.Kids = m.commas(make([]int, m.source.Intn(4)), func(int) api.Node {
		p := m.named(api.NodeParam)
		m.put(":")
		p.N = m.sort()
		return p
	})
	m.put(")")
	m.put("on")
	n.Kids = append(n.Kids, m.named(api.NodeName))
	if kind == api.NodeQuery {
		m.put(":")
		n.N = m.sort()
	}
	m.put("=")
	n.Kids = append(n.Kids, m.expression(0, depth))
	return n
}

// sort writes a sort.
func (m *maker) sort() int64 {
	i := m.source.Intn(4)
	m.put([]string{"int", "bool", "name", "names"}[i])
	return []int64{api.SortInt, api.SortBool, api.SortName, api.SortNames}[i]
}

// lattice writes a lattice.
func (m *maker) lattice(depth int) api.Node {
	if depth <= 0 {
		return m.simple()
	}
	switch m.source.Intn(3) {
	case 0:
		n := api.Node{Kind: api.NodeMap, At: m.enter("map")}
		n.Kids = append(m.allowed(), m.lattice(depth-1))
		m.leave()
		return n
	case 1:
		n := api.Node{Kind: api.NodeLex, At: m.enter("lex")}
		m.put("(")
		n.Kids = m.commas(m.depths(2, depth), m.lattice)
		m.leave(")")
		return n
	}
	n := api.Node{Kind: api.NodeProduct, At: m.enter("{")}
	n.Kids = m.commas(m.depths(1+m.source.Intn(3), depth), func(depth int) api.Node {
		member := m.named(api.NodeMember)
		m.put(":")
		member.Kids = []api.Node{m.lattice(depth)}
		return member
	})
	m.leave("}")
	return n
}

// simple writes a lattice without parts.
func (m *maker) simple() api.Node {
	switch i := m.source.Intn(8); i {
	case 0:
		return api.Node{Kind: api.NodeFlag, At: m.put("flag")}
	case 1:
		return api.Node{Kind: api.NodeRegister, At: m.put("register")}
	case 2, 3:
		n := api.Node{Kind: []int{api.NodeSet, api.NodeFlat}[i-2], At: m.put([]string{"set", "flat"}[i-2])}
		n.Kids = m.allowed()
		return n
	case 4, 5:
		n := api.Node{Kind: []int{api.NodeMax, api.NodeMin}[i-4], At: m.put([]string{"max", "min"}[i-4])}
		m.put("(")
		n.Kids = m.commas(make([]int, 2), func(int) api.Node { return m.integer() })
		m.put(")")
		return n
	case 6:
		n := api.Node{Kind: api.NodeClosed, At: m.put("closed")}
		m.put("(")
		n.Kids = m.quotes(m.source.Intn(4))
		for range m.source.Intn(4) {
			m.put(";")
			n.Kids = append(n.Kids, m.rule())
		}
		m.put(")")
		return n
	}
	return m.named(api.NodeNamed)
}

// allowed writes quoted names in parentheses, or nothing.
func (m *maker) allowed() []api.Node {
	if m.source.Intn(2) == 0 {
		return nil
	}
	m.put("(")
	list := m.quotes(1 + m.source.Intn(3))
	m.put(")")
	return list
}

// rule writes a rule.
func (m *maker) rule() api.Node {
	first := len(m.offsets)
	n := api.Node{Kind: api.NodeRule, Kids: m.quotes(m.source.Intn(3))}
	m.put("=>")
	n.Kids = append(n.Kids, m.quote())
	n.At = m.offsets[first]
	return n
}

// expression writes an expression at a place that requires a level, as chapter 17 defines levels.
func (m *maker) expression(required, depth int) api.Node {
	level := m.source.Intn(9)
	if depth <= 0 {
		level = 8
	}
	if level < required || m.source.Intn(10) == 0 {
		m.enter("(")
		n := m.expression(0, depth-1)
		m.leave(")")
		return n
	}
	switch level {
	case 0:
		return m.choose(depth)
	case 3:
		n := api.Node{Kind: api.NodeNot, At: m.enter("not")}
		n.Kids = []api.Node{m.expression(3, depth-1)}
		m.leave()
		return n
	case 7:
		return m.part(depth)
	case 8:
		if depth <= 0 {
			return m.leaf()
		}
		return m.call(depth)
	}
	return m.binary(level, depth)
}

// choose writes an if.
func (m *maker) choose(depth int) api.Node {
	n := api.Node{Kind: api.NodeIf}
	depths := m.depths(3, depth)
	n.At = m.enter("if")
	condition := m.expression(0, depths[0])
	m.put("then")
	yes := m.expression(0, depths[1])
	m.put("else")
	n.Kids = []api.Node{condition, yes, m.expression(0, depths[2])}
	m.leave()
	return n
}

// binary writes a binary operator of a level with its operands.
func (m *maker) binary(level, depth int) api.Node {
	kinds := map[int][]int{1: {api.NodeOr}, 2: {api.NodeAnd}, 4: {api.NodeLessEq, api.NodeLess, api.NodeEqual, api.NodeIn, api.NodeLeq}, 5: {api.NodeJoin}, 6: {api.NodePlus, api.NodeMinus}}[level]
	words := map[int][]string{1: {"or"}, 2: {"and"}, 4: {"<=", "<", "==", "in", "leq"}, 5: {"join"}, 6: {"+", "-"}}[level]
	left := level
	if level == 4 {
		left = 5
	}
	i := m.source.Intn(len(kinds))
	depths := m.depths(2, depth)
	n := api.Node{Kind: kinds[i]}
	first := m.expression(left, depths[0])
	n.At = m.put(words[i])
	n.Kids = []api.Node{first, m.expression(level+1, depths[1])}
	return n
}

// part writes a field or an index.
func (m *maker) part(depth int) api.Node {
	depths := m.depths(2, depth)
	operand := m.expression(7, depths[0])
	if m.source.Intn(2) == 0 {
		n := api.Node{Kind: api.NodeField, At: m.put("."), Kids: []api.Node{operand}}
		n.Text, _ = m.putName()
		return n
	}
	n := api.Node{Kind: api.NodeIndex, At: m.enter("[")}
	n.Kids = []api.Node{operand, m.expression(0, depths[1])}
	m.leave("]")
	return n
}

// call writes a call.
func (m *maker) call(depth int) api.Node {
	all := []string{"flag", "num", "set", "map", "rec", "pair", "one", "write", "size", "sum", "number", "on", "keys", "values", "first", "second", "conflict"}
	f := all[m.source.Intn(len(all))]
	n := api.Node{Kind: api.NodeCall, Text: f, At: m.put(f)}
	m.enter("(")
	n.Kids = m.commas(m.depths(m.source.Intn(4), depth), func(depth int) api.Node {
		switch f {
		case "rec":
			field := m.named(api.NodeEntry)
			m.put(":")
			field.Kids = []api.Node{m.expression(0, depth)}
			return field
		case "map":
			first, depths := len(m.offsets), m.depths(2, depth)
			key := m.expression(0, depths[0])
			m.put(":")
			return api.Node{Kind: api.NodeEntry, Kids: []api.Node{key, m.expression(0, depths[1])}, At: m.offsets[first]}
		}
		return m.expression(0, depth)
	})
	m.leave(")")
	return n
}

// leaf writes an expression without parts.
func (m *maker) leaf() api.Node {
	switch m.source.Intn(8) {
	case 0:
		return api.Node{Kind: api.NodeTrue, At: m.put("true")}
	case 1:
		return api.Node{Kind: api.NodeFalse, At: m.put("false")}
	case 2:
		return api.Node{Kind: api.NodeState, At: m.put("s")}
	case 3:
		return api.Node{Kind: api.NodeBottom, At: m.put("bottom")}
	case 4:
		return m.quote()
	case 5:
		return m.integer()
	}
	return m.named(api.NodeName)
}
