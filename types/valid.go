package types

import (
	"slices"

	"plexus/api"
	"plexus/lattice"
	"plexus/names"
	"plexus/shape"
)

// Valid reports whether f is a function that Check can return for an object with the lattice l.
func Valid(l api.Lattice, f api.Function) bool {
	if lattice.Check(l) != api.OK || !names.Valid(f.Name) || !names.Valid(f.On) || !areParams(f.Params) || f.Result != 0 && !isSort(f.Result) {
		return false
	}
	// All trees that come into question have the same elaboration, so the body is one if it is that of this tree.
	n := expressionTree(f.Params, f.Body)
	if !shape.Expression(n, names.Valid) {
		return false
	}
	e, fault := elaborate(l, f.Params, expected(l, f.Result), n)
	return fault.Code == api.OK && equal(e, f.Body)
}

// Program reports whether p is a program that Check can return.
func Program(p api.Program) bool {
	all := slices.Concat(p.Updates, p.Queries)
	if len(p.Objects)+len(all) > MaxDeclarations || !areNamed(p) || !areResults(p) {
		return false
	}
	for _, o := range p.Objects {
		if !names.Valid(o.Name) || lattice.Check(o.Lattice) != api.OK {
			return false
		}
	}
search:
	for _, f := range all {
		for _, o := range p.Objects {
			if o.Name == f.On && Valid(o.Lattice, f) {
				continue search
			}
		}
		return false
	}
	return true
}

// areParams reports whether a function can have the parameters of a list.
func areParams(list []api.Param) bool {
	seen := map[string]bool{}
	for _, p := range list {
		if !names.Valid(p.Name) || seen[p.Name] || !isSort(p.Sort) {
			return false
		}
		seen[p.Name] = true
	}
	return len(list) <= MaxParams
}

// areNamed reports whether the objects, the updates and the queries of p are sorted by their names, and all of these are different.
func areNamed(p api.Program) bool {
	var objects, updates, queries []string
	for _, o := range p.Objects {
		objects = append(objects, o.Name)
	}
	for _, f := range p.Updates {
		updates = append(updates, f.Name)
	}
	for _, f := range p.Queries {
		queries = append(queries, f.Name)
	}
	all := slices.Concat(objects, updates, queries)
	return names.Sorted(objects) && names.Sorted(updates) && names.Sorted(queries) && len(names.Of(all)) == len(all)
}

// areResults reports whether the updates of p, and they alone, have no result.
func areResults(p api.Program) bool {
	isUpdate := func(f api.Function) bool { return f.Result == 0 }
	isQuery := func(f api.Function) bool { return f.Result != 0 }
	return !slices.ContainsFunc(p.Updates, isQuery) && !slices.ContainsFunc(p.Queries, isUpdate)
}

// equal reports whether two elaborated expressions are the same.
func equal(a, b api.Expr) bool {
	return a.Op == b.Op && a.N == b.N && a.Text == b.Text && a.At == b.At && Same(a.Type, b.Type) && slices.EqualFunc(a.Kids, b.Kids, equal)
}
