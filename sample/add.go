package sample

import "plexus/api"

// Adding makes an expression of elements of a lattice that is rarely the bottom and hardly depends on the state: what joins it to the state usually adds something.
func (m *Maker) Adding(t api.Type) Made {
	return m.placed(m.added(t.Lattice), t)
}

// added makes such an expression without its offset and its type.
func (m *Maker) added(l api.Lattice) Made {
	part := func(i int) Made { return m.Adding(Of(l.Parts[i])) }
	word := func() Made { return m.word(l) }
	switch l.Kind {
	case api.Flag:
		return compose(api.NodeCall, "flag", api.XFlag, m.datum(api.SortBool))
	case api.Max, api.Min:
		return compose(api.NodeCall, "num", api.XNum, m.datum(api.SortInt))
	case api.Flat:
		return compose(api.NodeCall, "one", api.XOne, word())
	case api.Set, api.Closed:
		return compose(api.NodeCall, "set", api.XSet, word(), m.datum(api.SortName+m.Intn(2)))
	case api.Lex:
		return compose(api.NodeCall, "pair", api.XPair, part(0), part(1))
	case api.Register:
		of := m.Make(Of(l), Sure, 1)
		return compose(api.NodeCall, "write", api.XWrite, of, m.datum(api.SortInt), word())
	case api.Map:
		x := compose(api.NodeCall, "map", api.XMap)
		for range 1 + m.Intn(2) {
			m.addEntry(&x, "", word(), part(0))
		}
		return x
	}
	x := compose(api.NodeCall, "rec", api.XRec)
	for i, part := range l.Parts {
		x.Expr.Kids = append(x.Expr.Kids, api.Expr{Op: api.XBottom, Type: Of(part), At: omitted})
		if m.Intn(3) > 0 {
			value := m.Adding(Of(part))
			x.Expr.Kids = x.Expr.Kids[:i]
			m.addEntry(&x, l.Names[i], value)
		}
	}
	return x
}

// addEntry adds an entry to a call of map or rec.
func (m *Maker) addEntry(x *Made, field string, kids ...Made) {
	entry := compose(api.NodeEntry, field, 0, kids...)
	entry.Tree.At = m.offset()
	x.Tree.Kids = append(x.Tree.Kids, entry.Tree)
	x.Expr.Kids = append(x.Expr.Kids, entry.Expr.Kids...)
}

// word makes an expression of the sort name, often one that a lattice allows.
func (m *Maker) word(l api.Lattice) Made {
	if len(l.Names) == 0 || m.Intn(2) == 0 {
		return m.datum(api.SortName)
	}
	s := one(m, l.Names...)
	return m.placed(Made{api.Node{Kind: api.NodeQuote, Text: s}, api.Expr{Op: api.XName, Text: s}}, Sort(api.SortName))
}

// datum makes a parameter or a constant of a sort.
func (m *Maker) datum(sort int) Made {
	return m.placed(m.leaf(Sort(sort)), Sort(sort))
}
