package types_test

import (
	"slices"

	"plexus/api"
	"plexus/sample"
	"plexus/types"
)

// judge finds the type of an expression, or its first fault, which is a panic. It follows the tables of the chapter row by row, and makes no elaboration.
type judge struct {
	l      api.Lattice
	params []api.Param
}

// none is no expectation.
var none api.Type

// verdict returns the type of an expression, or its first fault.
func (j judge) verdict(n api.Node, want api.Type) (t api.Type, fault api.Fault) {
	defer func() {
		if r := recover(); r != nil {
			t, fault = none, r.(api.Fault)
		}
	}()
	return j.expect(n, want), api.Fault{}
}

// refuse panics with a fault if a condition holds.
func refuse(condition bool, code api.Errno, at int) {
	if condition {
		panic(api.Fault{Code: code, At: at})
	}
}

// expect returns the type of an expression of which the type want is expected.
func (j judge) expect(n api.Node, want api.Type) api.Type {
	t := j.typeOf(n, want)
	refuse(text(want) != text(none) && !types.Same(t, want), api.ErrType, n.At)
	return t
}

// isLattice reports whether t is the type of elements of a lattice of one of the kinds, or of any kind if none is given.
func isLattice(t api.Type, kinds ...int) bool {
	return t.Sort == 0 && t.Lattice.Kind != 0 && (len(kinds) == 0 || slices.Contains(kinds, t.Lattice.Kind))
}

// typeOf returns the type of an expression by its row.
func (j judge) typeOf(n api.Node, want api.Type) api.Type {
	all := func(result api.Type, operands ...api.Type) api.Type {
		for i, t := range operands {
			j.expect(n.Kids[i], t)
		}
		return result
	}
	switch n.Kind {
	case api.NodeInt:
		return number
	case api.NodeTrue, api.NodeFalse:
		return truth
	case api.NodeQuote:
		return name
	case api.NodeName:
		i := slices.IndexFunc(j.params, func(p api.Param) bool { return p.Name == n.Text })
		refuse(i < 0, api.ErrName, n.At)
		return api.Type{Sort: j.params[i].Sort}
	case api.NodeState:
		return of(j.l)
	case api.NodeBottom:
		refuse(!isLattice(want), api.ErrType, n.At)
		return want
	case api.NodeIf:
		j.expect(n.Kids[0], truth)
		if text(want) != text(none) {
			j.expect(n.Kids[1], want)
			return j.expect(n.Kids[2], want)
		}
		return j.together(n, n.Kids[1], n.Kids[2], false)
	case api.NodeOr, api.NodeAnd:
		return all(truth, truth, truth)
	case api.NodeNot:
		return all(truth, truth)
	case api.NodeLessEq, api.NodeLess:
		return all(truth, number, number)
	case api.NodePlus, api.NodeMinus:
		return all(number, number, number)
	case api.NodeEqual:
		t := j.expect(n.Kids[0], none)
		refuse(isLattice(t), api.ErrType, n.Kids[0].At)
		j.expect(n.Kids[1], t)
		return truth
	case api.NodeIn:
		return all(truth, name, names)
	case api.NodeLeq:
		j.together(n, n.Kids[0], n.Kids[1], true)
		return truth
	case api.NodeJoin:
		if text(want) == text(none) {
			return j.together(n, n.Kids[0], n.Kids[1], true)
		}
		refuse(!isLattice(want), api.ErrType, n.At)
		return all(want, want, want)
	case api.NodeField:
		t := j.expect(n.Kids[0], none)
		refuse(!isLattice(t, api.Product), api.ErrType, n.At)
		i := slices.Index(t.Lattice.Names, n.Text)
		refuse(i < 0, api.ErrName, n.At)
		return of(t.Lattice.Parts[i])
	case api.NodeIndex:
		t := j.expect(n.Kids[0], none)
		refuse(!isLattice(t, api.Map), api.ErrType, n.At)
		j.expect(n.Kids[1], name)
		return of(t.Lattice.Parts[0])
	}
	return j.call(n, want)
}

// together returns the type of two operands.
func (j judge) together(n, a, b api.Node, elements bool) api.Type {
	refuse(sample.IsOpen(a) && sample.IsOpen(b), api.ErrType, n.At)
	if sample.IsOpen(a) {
		a, b = b, a
	}
	t := j.expect(a, none)
	refuse(elements && !isLattice(t), api.ErrType, a.At)
	return j.expect(b, t)
}

// call returns the type of a call.
func (j judge) call(n api.Node, want api.Type) api.Type {
	count := map[string]int{"write": 3, "pair": 2, "set": len(n.Kids), "map": len(n.Kids), "rec": len(n.Kids)}[n.Text]
	if count == 0 && !slices.Contains([]string{"set", "map", "rec"}, n.Text) {
		count = 1
	}
	refuse(len(n.Kids) != count, api.ErrArgument, n.At)
	kinds := map[string][]int{"flag": {api.Flag}, "num": {api.Max, api.Min}, "set": {api.Set, api.Closed}, "map": {api.Map}, "rec": {api.Product}, "pair": {api.Lex}, "one": {api.Flat}}[n.Text]
	refuse(sample.IsOpen(n) && !isLattice(want, kinds...), api.ErrType, n.At)
	switch n.Text {
	case "flag":
		j.expect(n.Kids[0], truth)
	case "num":
		j.expect(n.Kids[0], number)
	case "one":
		j.expect(n.Kids[0], name)
	case "set":
		for _, kid := range n.Kids {
			t := j.expect(kid, none)
			refuse(t.Sort != api.SortName && t.Sort != api.SortNames, api.ErrType, kid.At)
		}
	case "map":
		for _, entry := range n.Kids {
			j.expect(entry.Kids[0], name)
			j.expect(entry.Kids[1], of(want.Lattice.Parts[0]))
		}
	case "rec":
		for i, entry := range n.Kids {
			field := slices.Index(want.Lattice.Names, entry.Text)
			refuse(field < 0 || slices.ContainsFunc(n.Kids[:i], func(e api.Node) bool { return e.Text == entry.Text }), api.ErrName, entry.At)
			j.expect(entry.Kids[0], of(want.Lattice.Parts[field]))
		}
	case "pair":
		j.expect(n.Kids[0], of(want.Lattice.Parts[0]))
		j.expect(n.Kids[1], of(want.Lattice.Parts[1]))
	case "write":
		register := of(api.Lattice{Kind: api.Register})
		j.expect(n.Kids[0], register)
		j.expect(n.Kids[1], number)
		j.expect(n.Kids[2], name)
		return register
	default:
		t := j.expect(n.Kids[0], none)
		refuse(!sample.Reads(n.Text, t), api.ErrType, n.At)
		switch n.Text {
		case "first":
			return of(t.Lattice.Parts[0])
		case "second":
			return of(t.Lattice.Parts[1])
		}
		return map[string]api.Type{"size": number, "sum": number, "number": number, "on": truth, "conflict": truth, "keys": names, "values": names}[n.Text]
	}
	return want
}
