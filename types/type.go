package types

import (
	"slices"

	"plexus/api"
	"plexus/copies"
	"plexus/lattice"
)

// same reports whether a and b are equal.
func same(a, b *api.Type) bool {
	return a.Sort == b.Sort && lattice.Equal(a.Lattice, b.Lattice)
}

// isElement reports whether t is the type of elements of a lattice. The type that is not expected is none.
func isElement(t *api.Type) bool {
	return t != nil && t.Sort == 0 && t.Lattice.Kind != 0
}

// isOne reports whether t is the type of elements of a lattice that has one of the kinds.
func isOne(t *api.Type, kinds ...int) bool {
	return isElement(t) && slices.Contains(kinds, t.Lattice.Kind)
}

// part returns the type of a part of the lattice of t.
func part(t *api.Type, i int) *api.Type {
	return &api.Type{Lattice: t.Lattice.Parts[i]}
}

// isType reports whether t is a type.
func isType(t *api.Type) bool {
	if t.Sort == 0 {
		return lattice.Check(t.Lattice) == api.OK
	}
	return isSort(t.Sort) && lattice.Equal(t.Lattice, api.Lattice{})
}

// isSort reports whether sort is the number of a sort.
func isSort(sort int) bool {
	return sort >= api.SortInt && sort <= api.SortNames
}

// expected returns the type that is expected of the body of a function on an object with the lattice l: for an update, whose result is 0, that of the object.
func expected(l api.Lattice, result int) *api.Type {
	if result == 0 {
		return &api.Type{Lattice: l}
	}
	return &api.Type{Sort: result}
}

// separate gives each node of an elaboration a type of its own. Until then they share memory with one another and with the arguments.
func separate(e *api.Expr) {
	e.Type.Lattice = copies.Lattice(e.Type.Lattice)
	for i := range e.Kids {
		separate(&e.Kids[i])
	}
}
