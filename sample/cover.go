package sample

import (
	"slices"

	"plexus/api"
)

// coverer makes expressions that are never below a part of the state, by the rules of package inflation.
type coverer struct {
	*Maker
	loose int // one of so many is any expression instead; none, if it is 0
}

// Covering makes an expression of elements of the object's lattice that is never below the state, by the rules of package inflation. If loose is not 0, one of so many parts on which this depends is any expression instead.
func (m *Maker) Covering(loose, depth int) Made {
	return coverer{m, loose}.cover(nil, Sure, depth)
}

// cover makes an expression that is never below the part at a path. The steps of a path are the indices of fields, and -1 and -2 for the parts of pairs. What is called how is Unknown or Sure.
func (c coverer) cover(path []int, how, depth int) Made {
	t := c.typeAt(path)
	if c.isLoose() {
		return c.Make(t, how, depth)
	}
	return c.placed(c.combined(path, t, how, depth-1), t)
}

// combined makes such an expression of others. Its offset and its type are missing.
func (c coverer) combined(path []int, t api.Type, how, d int) Made {
	if d < 0 || c.Intn(8) == 0 {
		return c.selected(c.words(path), 0)
	}
	switch c.Intn(5) {
	case 0:
		other := Sure
		if how == Unknown {
			other = Told
		}
		kids := c.mixed(c.cover(path, how, d), c.Make(t, other, d))
		return compose(api.NodeJoin, "", api.XJoin, kids...)
	case 1:
		return compose(api.NodeIf, "", api.XIf, c.Make(Sort(api.SortBool), Sure, d), c.cover(path, how, d), c.cover(path, how, d))
	case 2:
		return c.part(path, d)
	}
	if t.Lattice.Kind == api.Register {
		return compose(api.NodeCall, "write", api.XWrite, c.cover(path, Sure, d), c.Make(Sort(api.SortInt), Sure, d), c.Make(Sort(api.SortName), Sure, d))
	}
	if how == Unknown {
		return c.part(path, d)
	}
	return c.call(path, t.Lattice, d)
}

// part makes the part of an expression that is never below what has the part.
func (c coverer) part(path []int, d int) Made {
	at := len(path) - 1
	if at < 0 || path[at] == -2 {
		return c.selected(c.words(path), 0)
	}
	kid := c.cover(path[:at], Unknown, d)
	if path[at] == -1 {
		return compose(api.NodeCall, "first", api.XFirst, kid)
	}
	x := compose(api.NodeField, c.words(path)[at], api.XField, kid)
	x.Expr.N = int64(path[at])
	return x
}

// call makes a call of a function that makes elements.
func (c coverer) call(path []int, l api.Lattice, d int) Made {
	behind := func(step int) []int { return append(slices.Clone(path), step) }
	switch l.Kind {
	case api.Flag:
		return compose(api.NodeCall, "flag", api.XFlag, c.condition(path, d))
	case api.Max, api.Min:
		return compose(api.NodeCall, "num", api.XNum, c.number(path, l.Kind, d))
	case api.Set, api.Closed:
		kids := []Made{c.reading("keys", api.XKeys, api.SortNames, path, d)}
		for range c.Intn(3) {
			kids = c.mixed(append(kids, c.Make(Sort(api.SortName+c.Intn(2)), Unknown, d))...)
		}
		return compose(api.NodeCall, "set", api.XSet, kids...)
	case api.Lex:
		return compose(api.NodeCall, "pair", api.XPair, c.cover(behind(-1), Sure, d), c.cover(behind(-2), Sure, d))
	case api.Product:
		x := compose(api.NodeCall, "rec", api.XRec)
		x.Expr.Kids = make([]api.Expr, len(l.Names))
		for _, i := range c.order(len(l.Names)) {
			value := c.cover(behind(i), Sure, d)
			x.Tree.Kids = append(x.Tree.Kids, api.Node{Kind: api.NodeEntry, Text: l.Names[i], At: c.offset(), Kids: []api.Node{value.Tree}})
			x.Expr.Kids[i] = value.Expr
		}
		return x
	}
	return c.selected(c.words(path), 0)
}

// condition makes a condition that holds if the flag at a path is true.
func (c coverer) condition(path []int, d int) Made {
	t := Sort(api.SortBool)
	if c.isLoose() {
		return c.Make(t, Sure, d)
	}
	choice := c.Intn(6)
	switch {
	case choice == 0:
		return c.placed(Made{api.Node{Kind: api.NodeTrue}, api.Expr{Op: api.XBool, N: 1}}, t)
	case choice == 1 && d > 0:
		return c.placed(compose(api.NodeAnd, "", api.XAnd, c.condition(path, d-1), c.condition(path, d-1)), t)
	case choice == 2 && d > 0:
		return c.placed(compose(api.NodeOr, "", api.XOr, c.mixed(c.condition(path, d-1), c.Make(t, Sure, d-1))...), t)
	}
	return c.reading("on", api.XOn, api.SortBool, path, d)
}

// number makes a number that is at least that at a path, or for the kind Min at most that.
func (c coverer) number(path []int, kind, d int) Made {
	t := Sort(api.SortInt)
	if c.isLoose() {
		return c.Make(t, Sure, d)
	}
	if d <= 0 || c.Intn(2) == 0 {
		return c.reading("number", api.XNumber, t.Sort, path, d)
	}
	n := int64(one(c.Maker, 0, 1, 2, 9, api.MaxNumber))
	step := c.placed(Made{api.Node{Kind: api.NodeInt, N: n}, api.Expr{Op: api.XInt, N: n}}, t)
	if kind == api.Min {
		return c.placed(compose(api.NodeMinus, "", api.XMinus, c.number(path, kind, d-1), step), t)
	}
	return c.placed(compose(api.NodePlus, "", api.XPlus, c.mixed(c.number(path, kind, d-1), step)...), t)
}

// reading makes a call of a function that reads what is never below the part at a path.
func (c coverer) reading(function string, op, sort int, path []int, d int) Made {
	return c.placed(compose(api.NodeCall, function, op, c.cover(path, Unknown, d)), Sort(sort))
}

// isLoose decides whether the next part is any expression.
func (c coverer) isLoose() bool { return c.loose > 0 && c.Intn(c.loose) == 0 }

// mixed returns a list in any order.
func (c coverer) mixed(list ...Made) []Made {
	var some []Made
	for _, i := range c.order(len(list)) {
		some = append(some, list[i])
	}
	return some
}

// words returns a path with the words of Maker's paths.
func (c coverer) words(path []int) []string {
	var list []string
	for i, step := range path {
		switch step {
		case -1:
			list = append(list, "<")
		case -2:
			list = append(list, ">")
		default:
			list = append(list, c.typeAt(path[:i]).Lattice.Names[step])
		}
	}
	return list
}

// typeAt returns the type of the part at a path.
func (c coverer) typeAt(path []int) api.Type {
	l := c.Lattice
	for _, step := range path {
		if step < 0 {
			step = -1 - step
		}
		l = l.Parts[step]
	}
	return Of(l)
}
