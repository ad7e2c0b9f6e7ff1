package irreducible

import (
	"slices"

	"plexus/api"
	"plexus/copies"
	"plexus/lattice"
	"plexus/value"
)

// Decompose returns the irredundant list of irreducible values whose join is v, in ascending order, for a distributive lattice.
func Decompose(l api.Lattice, v api.Value) ([]api.Value, api.Errno) {
	if e := check(l, v); e != api.OK {
		return nil, e
	}
	if !lattice.Distributive(l) {
		return nil, api.ErrState
	}
	list := decompose(l, v)
	slices.SortFunc(list, value.Compare)
	return list, api.OK
}

// decompose returns the decomposition of an element of a distributive description, in any order.
func decompose(l api.Lattice, v api.Value) []api.Value {
	var list []api.Value
	// within adds what the values of the decomposition of a part are in the whole.
	within := func(part api.Lattice, v api.Value, whole func(d api.Value) api.Value) {
		for _, d := range decompose(part, v) {
			list = append(list, whole(d))
		}
	}
	switch l.Kind {
	case api.Set:
		for _, s := range v.Names {
			list = append(list, api.Value{Names: []string{s}})
		}
	case api.Map:
		for i := range len(v.Names) {
			within(l.Parts[0], v.Parts[i], func(d api.Value) api.Value {
				return api.Value{Names: []string{v.Names[i]}, Parts: []api.Value{d}}
			})
		}
	case api.Product:
		for i := range len(v.Parts) {
			within(l.Parts[i], v.Parts[i], func(d api.Value) api.Value { return alone(l, i, d) })
		}
	case api.Lex:
		within(l.Parts[1], v.Parts[1], func(d api.Value) api.Value {
			return api.Value{Parts: []api.Value{copyOf(l.Parts[0], v.Parts[0]), d}}
		})
	case api.Register:
		for _, e := range v.Entries {
			list = append(list, api.Value{Entries: []api.Entry{copies.Entry(e)}})
		}
	}
	// An element of a chain, or of a Lex with nothing in its second part, is irreducible as a whole.
	if len(list) == 0 && !value.IsBottom(l, v) {
		list = append(list, copyOf(l, v))
	}
	return list
}

// alone returns the product of which the field i is v and all others are bottom.
func alone(l api.Lattice, i int, v api.Value) api.Value {
	product := bottom(l)
	product.Parts[i] = v
	return product
}
