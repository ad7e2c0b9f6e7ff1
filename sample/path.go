package sample

import (
	"slices"

	"plexus/api"
)

// paths returns all ways to types from a type: fields, keys and parts of pairs.
func paths(t api.Type) [][]string {
	all := [][]string{nil}
	under := func(way string, part api.Lattice) {
		for _, path := range paths(Of(part)) {
			all = append(all, append([]string{way}, path...))
		}
	}
	switch t.Lattice.Kind {
	case api.Product:
		for i, field := range t.Lattice.Names {
			under(field, t.Lattice.Parts[i])
		}
	case api.Lex:
		under("<", t.Lattice.Parts[0])
		under(">", t.Lattice.Parts[1])
	case api.Map:
		under("[", t.Lattice.Parts[0])
	}
	return all
}

// behind returns the type at the end of one step of a path.
func behind(t api.Type, way string) api.Type {
	switch {
	case way == "[" || way == "<":
		return Of(t.Lattice.Parts[0])
	case way == ">":
		return Of(t.Lattice.Parts[1])
	}
	return Of(t.Lattice.Parts[slices.Index(t.Lattice.Names, way)])
}

// end returns the type at the end of a path.
func end(t api.Type, path []string) api.Type {
	for _, way := range path {
		t = behind(t, way)
	}
	return t
}

// selected makes an expression for a path from the state. The last node is returned without its offset.
func (m *Maker) selected(path []string, d int) Made {
	if len(path) == 0 {
		return Made{api.Node{Kind: api.NodeState}, api.Expr{Op: api.XState}}
	}
	last := path[len(path)-1]
	at := m.offset()
	t := end(Of(m.Lattice), path[:len(path)-1])
	m.Steps = append(m.Steps, Step{At: at, Type: t})
	x := m.selected(path[:len(path)-1], d)
	x.Tree.At, x.Expr.At, x.Expr.Type = at, at, t
	switch last {
	case "<":
		return compose(api.NodeCall, "first", api.XFirst, x)
	case ">":
		return compose(api.NodeCall, "second", api.XSecond, x)
	case "[":
		return compose(api.NodeIndex, "", api.XAt, x, m.Make(Sort(api.SortName), Sure, d))
	}
	y := compose(api.NodeField, last, api.XField, x)
	y.Expr.N = int64(slices.Index(t.Lattice.Names, last))
	return y
}

// read makes an expression of elements that is not open, if there is one.
func (m *Maker) read(t api.Type, d int) (Made, bool) {
	var found [][]string
	for _, path := range paths(Of(m.Lattice)) {
		if sameLattice(end(Of(m.Lattice), path).Lattice, t.Lattice) {
			found = append(found, path)
		}
	}
	register := Of(api.Lattice{Kind: api.Register})
	if t.Lattice.Kind == api.Register && (len(found) == 0 || m.Intn(2) == 0) {
		return compose(api.NodeCall, "write", api.XWrite, m.Make(register, Sure, d), m.Make(Sort(api.SortInt), Sure, d), m.Make(Sort(api.SortName), Sure, d)), true
	}
	if len(found) == 0 {
		return Made{}, false
	}
	return m.selected(one(m, found...), d), true
}

// sameLattice reports whether all fields of two descriptions are equal.
func sameLattice(a, b api.Lattice) bool {
	sameRule := func(r, q api.Rule) bool { return r.Then == q.Then && slices.Equal(r.If, q.If) }
	return a.Kind == b.Kind && a.Lo == b.Lo && a.Hi == b.Hi && slices.Equal(a.Names, b.Names) && slices.EqualFunc(a.Parts, b.Parts, sameLattice) && slices.EqualFunc(a.Rules, b.Rules, sameRule)
}
