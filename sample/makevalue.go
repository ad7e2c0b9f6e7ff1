package sample

import "plexus/api"

// elements makes an expression of elements of a lattice.
func (m *Maker) elements(t api.Type, how, depth int) Made {
	d := depth - 1
	if depth > 0 && m.Intn(4) == 0 {
		return m.choice(t, how, d)
	}
	if depth > 0 && m.Intn(3) == 0 {
		if how == Unknown {
			return compose(api.NodeJoin, "", api.XJoin, m.two(t, d)...)
		}
		how = max(how, Sure) // both operands are elaborated with the type
		return compose(api.NodeJoin, "", api.XJoin, m.Make(t, how, d), m.Make(t, how, d))
	}
	if how == Unknown || how != opened && m.Intn(2) == 0 {
		if x, ok := m.read(t, d); ok {
			return x
		}
	}
	if depth <= 0 || m.Intn(5) == 0 {
		return Made{api.Node{Kind: api.NodeBottom}, api.Expr{Op: api.XBottom}}
	}
	return m.built(t, d)
}

// built makes a call that makes elements.
func (m *Maker) built(t api.Type, d int) Made {
	part := func(i int) api.Type { return Of(t.Lattice.Parts[i]) }
	switch t.Lattice.Kind {
	case api.Flag:
		return compose(api.NodeCall, "flag", api.XFlag, m.Make(Sort(api.SortBool), Sure, d))
	case api.Max, api.Min:
		return compose(api.NodeCall, "num", api.XNum, m.Make(Sort(api.SortInt), Sure, d))
	case api.Flat:
		return compose(api.NodeCall, "one", api.XOne, m.Make(Sort(api.SortName), Sure, d))
	case api.Lex:
		return compose(api.NodeCall, "pair", api.XPair, m.Make(part(0), Sure, d), m.Make(part(1), Sure, d))
	case api.Set, api.Closed:
		x := compose(api.NodeCall, "set", api.XSet)
		for range m.Intn(4) {
			kid := m.Make(one(m, Sort(api.SortName), Sort(api.SortNames)), Unknown, d)
			x.Tree.Kids, x.Expr.Kids = append(x.Tree.Kids, kid.Tree), append(x.Expr.Kids, kid.Expr)
		}
		return x
	case api.Map:
		x := compose(api.NodeCall, "map", api.XMap)
		for range m.Intn(3) {
			key, value := m.Make(Sort(api.SortName), Sure, d), m.Make(part(0), Sure, d)
			x.Tree.Kids = append(x.Tree.Kids, api.Node{Kind: api.NodeEntry, At: m.offset(), Kids: []api.Node{key.Tree, value.Tree}})
			x.Expr.Kids = append(x.Expr.Kids, key.Expr, value.Expr)
		}
		return x
	case api.Product:
		x := compose(api.NodeCall, "rec", api.XRec)
		for i := range t.Lattice.Parts {
			x.Expr.Kids = append(x.Expr.Kids, api.Expr{Op: api.XBottom, Type: part(i), At: omitted})
		}
		order := m.order(len(t.Lattice.Parts))
		for _, i := range order[:m.Intn(len(order)+1)] {
			value := m.Make(part(i), Sure, d)
			x.Tree.Kids = append(x.Tree.Kids, api.Node{Kind: api.NodeEntry, Text: t.Lattice.Names[i], At: m.offset(), Kids: []api.Node{value.Tree}})
			x.Expr.Kids[i] = value.Expr
		}
		return x
	}
	return Made{api.Node{Kind: api.NodeBottom}, api.Expr{Op: api.XBottom}}
}

// reading makes a call of a function that reads a value, if there are values for it.
func (m *Maker) reading(function string, d int) (Made, bool) {
	ops := map[string]int{"size": api.XSize, "sum": api.XSum, "number": api.XNumber, "on": api.XOn, "keys": api.XKeys, "values": api.XValues, "conflict": api.XConflict}
	var found []api.Type
	for _, t := range append(m.Readable(), Sort(api.SortNames)) {
		if Reads(function, t) {
			found = append(found, t)
		}
	}
	if len(found) == 0 {
		return Made{}, false
	}
	return compose(api.NodeCall, function, ops[function], m.Make(one(m, found...), Unknown, d)), true
}
