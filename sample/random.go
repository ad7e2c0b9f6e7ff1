package sample

import (
	"slices"

	"plexus/api"
)

// Element returns a random element of a valid description. Where all names are allowed it has some of a few.
func Element(intn func(n int) int, l api.Lattice) api.Value {
	switch l.Kind {
	case api.Max, api.Min:
		return Number(l.Lo + int64(intn(int(l.Hi-l.Lo)+1)))
	case api.Set:
		return Named(some(intn, l.Names)...)
	case api.Map:
		return randomMap(intn, l)
	case api.Product, api.Lex:
		var v api.Value
		for _, part := range l.Parts {
			v.Parts = append(v.Parts, Element(intn, part))
		}
		return v
	}
	all := Elements(l)
	return all[intn(len(all))]
}

// Argument returns a random argument of a sort.
func Argument(intn func(n int) int, sort int) api.Datum {
	d := api.Datum{Sort: sort}
	switch sort {
	case api.SortInt:
		d.N = []int64{0, 1, 2, 3, -1, -3, api.MaxProcess, api.MaxProcess + 1, api.MaxNumber, -api.MaxNumber}[intn(10)]
	case api.SortBool:
		d.N = int64(intn(2))
	case api.SortName:
		d.Name = usual()[intn(len(usual()))]
	case api.SortNames:
		d.Names = some(intn, nil)
	}
	return d
}

// Arguments returns random arguments for parameters.
func Arguments(intn func(n int) int, params []api.Param) []api.Datum {
	var list []api.Datum
	for _, p := range params {
		list = append(list, Argument(intn, p.Sort))
	}
	return list
}

// AnyLattice returns a description that is valid only by chance.
func AnyLattice(intn func(n int) int, depth int) api.Lattice {
	l := api.Lattice{Kind: intn(13) - 1, Hi: int64(intn(3) - 1), Names: [][]string{nil, {"a"}, {"a", "b"}, {"a", "a"}}[intn(4)]}
	for range intn(3) {
		if depth > 0 {
			l.Parts = append(l.Parts, AnyLattice(intn, depth-1))
		}
	}
	if intn(4) == 0 {
		l.Rules = []api.Rule{{If: []string{"a"}, Then: "b"}, {}}
	}
	return l
}

// AnyExpr returns an expression that is an elaboration only by chance.
func AnyExpr(intn func(n int) int, depth int) api.Expr {
	e := api.Expr{Op: intn(41) - 1, Type: api.Type{Sort: intn(7) - 1, Lattice: AnyLattice(intn, 1)}, N: int64(intn(6) - 2), Text: []string{"", "a"}[intn(2)]}
	if intn(2) == 0 {
		e.Type.Lattice = api.Lattice{}
	}
	for range intn(4) {
		if depth > 0 {
			e.Kids = append(e.Kids, AnyExpr(intn, depth-1))
		}
	}
	return e
}

// AnyValue returns a value that is an element of a lattice only by chance.
func AnyValue(intn func(n int) int, depth int) api.Value {
	v := api.Value{N: int64(intn(4) - 1), Names: [][]string{nil, {"a"}, {"a", "b"}, {"b", "a"}, {"A", ""}}[intn(5)]}
	for range intn(4) {
		if depth > 0 {
			v.Parts = append(v.Parts, AnyValue(intn, depth-1))
		}
	}
	if intn(3) == 0 {
		v.Entries = []api.Entry{Entry("a", 1, 1), Entry("", 9, -9, 0, 0), Entry("b", 0, api.MaxNumber)}[:intn(4)]
	}
	return v
}

// AnyDatum returns a datum that is an argument only by chance.
func AnyDatum(intn func(n int) int) api.Datum {
	d := api.Datum{Sort: intn(7) - 1}
	switch intn(5) {
	case 0:
		d.N = []int64{1, 2, -1, api.MaxNumber, api.MaxNumber + 1, -api.MaxNumber - 1}[intn(6)]
	case 1:
		d.Name = []string{"a", "A", "x"}[intn(3)]
	case 2:
		d.Names = [][]string{{}, {"a"}, {"a", "b"}, {"b", "a"}, {"a", "a"}, {"a", "b b"}}[intn(6)]
	case 3:
		return Argument(intn, 1+intn(4))
	}
	return d
}

// usual returns the names that occur in random values where all are allowed. Some of them are names that a Maker quotes.
func usual() []string { return []string{"a", "b", "if", "s", "x"} }

// some returns some names of a list, or of the usual ones if it is empty.
func some(intn func(n int) int, list []string) []string {
	if len(list) == 0 {
		list = usual()
	}
	return slices.DeleteFunc(slices.Clone(list), func(string) bool { return intn(2) == 0 })
}

// randomMap returns a random element of a Map.
func randomMap(intn func(n int) int, l api.Lattice) api.Value {
	var m api.Value
	for _, key := range some(intn, l.Names) {
		if v := Element(intn, l.Parts[0]); !Same(v, least(l.Parts[0])) {
			m.Names, m.Parts = append(m.Names, key), append(m.Parts, v)
		}
	}
	return m
}

// least returns the bottom of a valid description.
func least(l api.Lattice) api.Value {
	var v api.Value
	switch l.Kind {
	case api.Max:
		v.N = l.Lo
	case api.Min:
		v.N = l.Hi
	case api.Product, api.Lex:
		for _, part := range l.Parts {
			v.Parts = append(v.Parts, least(part))
		}
	}
	return v
}
