package sample

import "plexus/api"

// data makes an expression of a sort.
func (m *Maker) data(t api.Type, how, depth int) Made {
	if depth <= 0 || m.Intn(6) == 0 {
		return m.leaf(t)
	}
	d := depth - 1
	if m.Intn(5) == 0 {
		return m.choice(t, how, d)
	}
	switch t.Sort {
	case api.SortInt:
		if x, ok := m.reading(one(m, "size", "sum", "number"), d); ok {
			return x
		}
		i := m.Intn(2)
		return compose(api.NodePlus+i, "", api.XPlus+i, m.Make(Sort(api.SortInt), Sure, d), m.Make(Sort(api.SortInt), Sure, d))
	case api.SortBool:
		return m.condition(d)
	case api.SortNames:
		if x, ok := m.reading(one(m, "keys", "values"), d); ok {
			return x
		}
	}
	return m.leaf(t)
}

// condition makes an expression of the sort bool.
func (m *Maker) condition(d int) Made {
	switch i := m.Intn(9); i {
	case 0, 1:
		return compose(api.NodeOr+i, "", api.XOr+i, m.Make(Sort(api.SortBool), Sure, d), m.Make(Sort(api.SortBool), Sure, d))
	case 2:
		return compose(api.NodeNot, "", api.XNot, m.Make(Sort(api.SortBool), Sure, d))
	case 3, 4:
		return compose(api.NodeLessEq+i-3, "", api.XLessEq+i-3, m.Make(Sort(api.SortInt), Sure, d), m.Make(Sort(api.SortInt), Sure, d))
	case 5:
		t := one(m, Sort(api.SortInt), Sort(api.SortBool), Sort(api.SortName), Sort(api.SortNames))
		return compose(api.NodeEqual, "", api.XEqual, m.Make(t, Unknown, d), m.Make(t, Told, d))
	case 6:
		return compose(api.NodeIn, "", api.XIn, m.Make(Sort(api.SortName), Sure, d), m.Make(Sort(api.SortNames), Sure, d))
	case 7:
		return compose(api.NodeLeq, "", api.XLeq, m.two(one(m, m.Readable()...), d)...)
	}
	if x, ok := m.reading(one(m, "on", "conflict"), d); ok {
		return x
	}
	return m.leaf(Sort(api.SortBool))
}

// leaf makes an expression of a sort without parts, or with few.
func (m *Maker) leaf(t api.Type) Made {
	var fitting []int
	for i, p := range m.Params {
		if p.Sort == t.Sort {
			fitting = append(fitting, i)
		}
	}
	if m.Intn(2) == 0 || t.Sort == api.SortNames {
		i := one(m, fitting...)
		return Made{api.Node{Kind: api.NodeName, Text: m.Params[i].Name}, api.Expr{Op: api.XParam, N: int64(i)}}
	}
	switch t.Sort {
	case api.SortInt:
		n := one(m, 0, 1, -1, 7, api.MaxNumber, -api.MaxNumber)
		return Made{api.Node{Kind: api.NodeInt, N: int64(n)}, api.Expr{Op: api.XInt, N: int64(n)}}
	case api.SortBool:
		i := m.Intn(2)
		return Made{api.Node{Kind: api.NodeTrue + i}, api.Expr{Op: api.XBool, N: int64(1 - i)}}
	}
	s := one(m, "a", "s", "if", "abcdefghij-12345")
	return Made{api.Node{Kind: api.NodeQuote, Text: s}, api.Expr{Op: api.XName, Text: s}}
}

// choice makes an if.
func (m *Maker) choice(t api.Type, how, d int) Made {
	condition := m.Make(Sort(api.SortBool), Sure, d)
	var branches []Made
	switch how {
	case Unknown:
		branches = m.two(t, d)
	case opened:
		branches = []Made{m.Make(t, opened, d), m.Make(t, opened, d)}
	default:
		branches = []Made{m.Make(t, how, d), m.Make(t, how, d)}
	}
	return compose(api.NodeIf, "", api.XIf, append([]Made{condition}, branches...)...)
}

// two makes two operands of the same type, of which at least one is not open.
func (m *Maker) two(t api.Type, d int) []Made {
	if t.Sort == 0 && m.Intn(2) == 0 {
		second := m.Make(t, Unknown, d)
		return []Made{m.Make(t, opened, d), second}
	}
	return []Made{m.Make(t, Unknown, d), m.Make(t, Told, d)}
}
