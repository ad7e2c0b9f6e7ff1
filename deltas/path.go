package deltas

import (
	"plexus/api"
	"plexus/types"
)

// state returns the path that selects the whole state of an object with the lattice l. Paths have the offset 0, since no offset has an influence.
func state(l api.Lattice) *api.Expr {
	return &api.Expr{Op: api.XState, Type: api.Type{Lattice: l}}
}

// field returns the path to a field of a product.
func field(path *api.Expr, i int) *api.Expr {
	return &api.Expr{Op: api.XField, Type: part(path, i), N: int64(i), Kids: []api.Expr{*path}}
}

// at returns the path to the value of a key.
func at(path, key *api.Expr) *api.Expr {
	return &api.Expr{Op: api.XAt, Type: part(path, 0), Kids: []api.Expr{*path, *key}}
}

// part returns the type of a part of what a path selects.
func part(path *api.Expr, i int) api.Type {
	return api.Type{Lattice: path.Type.Lattice.Parts[i]}
}

// equal reports whether two expressions are the same, apart from their offsets.
func equal(a, b *api.Expr) bool {
	if a.Op != b.Op || a.N != b.N || a.Text != b.Text || len(a.Kids) != len(b.Kids) || !types.Same(a.Type, b.Type) {
		return false
	}
	for i := range a.Kids {
		if !equal(&a.Kids[i], &b.Kids[i]) {
			return false
		}
	}
	return true
}
