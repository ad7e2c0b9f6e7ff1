package join

import (
	"slices"

	"plexus/api"
	"plexus/closure"
	"plexus/copies"
	"plexus/names"
	"plexus/value"
)

// upper returns the least upper bound of two elements of a valid description.
func upper(l api.Lattice, a, b api.Value) api.Value {
	switch l.Kind {
	case api.Set:
		return api.Value{Names: names.Union(a.Names, b.Names)}
	case api.Map:
		return upperMap(l.Parts[0], a, b)
	case api.Product:
		return combine(l.Parts, a.Parts, b.Parts, upper)
	case api.Register:
		return api.Value{Entries: upperEntries(a.Entries, b.Entries)}
	case api.Closed:
		set, _ := closure.Close(l.Names, l.Rules, names.Union(a.Names, b.Names))
		return api.Value{Names: set}
	}
	switch {
	case leq(l, a, b):
		return copies.Value(b)
	case leq(l, b, a):
		return copies.Value(a)
	case l.Kind == api.Flat:
		return api.Value{N: flatTop}
	}
	// Elements of a Lex that are not comparable have the same first part, and those of a chain are comparable.
	return combine(l.Parts, a.Parts, b.Parts, upper)
}

// upperOfAll returns the least upper bound of all elements of a list. Halves are joined, so that a long list of small elements does not take quadratic time.
func upperOfAll(l api.Lattice, list []api.Value) api.Value {
	switch len(list) {
	case 0:
		least, _ := value.Bottom(l)
		return least
	case 1:
		return copies.Value(list[0])
	}
	half := len(list) / 2
	return upper(l, upperOfAll(l, list[:half]), upperOfAll(l, list[half:]))
}

// lower returns the greatest lower bound of two elements of a valid description without registers.
func lower(l api.Lattice, a, b api.Value) api.Value {
	switch l.Kind {
	case api.Set, api.Closed:
		return api.Value{Names: names.Intersect(a.Names, b.Names)}
	case api.Map:
		return lowerMap(l.Parts[0], a, b)
	case api.Product:
		return combine(l.Parts, a.Parts, b.Parts, lower)
	}
	switch {
	case leq(l, a, b):
		return copies.Value(a)
	case leq(l, b, a):
		return copies.Value(b)
	case l.Kind == api.Flat:
		return api.Value{N: flatBottom}
	}
	// As in upper, only a Lex with equal first parts is left.
	return combine(l.Parts, a.Parts, b.Parts, lower)
}

// combine returns the value whose parts are those of a and b, bounded part by part.
func combine(list []api.Lattice, a, b []api.Value, bound func(l api.Lattice, a, b api.Value) api.Value) api.Value {
	parts := make([]api.Value, len(list))
	for i, l := range list {
		parts[i] = bound(l, a[i], b[i])
	}
	return api.Value{Parts: parts}
}

// upperMap returns the map with the keys of both, in which a common key has the join of its values.
func upperMap(part api.Lattice, a, b api.Value) api.Value {
	keys := names.Union(a.Names, b.Names)
	parts := make([]api.Value, len(keys))
	for i, key := range keys {
		x, inA := get(a, key)
		y, inB := get(b, key)
		switch {
		case !inB:
			parts[i] = copies.Value(x)
		case !inA:
			parts[i] = copies.Value(y)
		default:
			parts[i] = upper(part, x, y)
		}
	}
	return api.Value{Names: keys, Parts: parts}
}

// lowerMap returns the map with the common keys whose values have a meet other than the bottom.
func lowerMap(part api.Lattice, a, b api.Value) api.Value {
	least, _ := value.Bottom(part)
	var m api.Value
	for i, key := range a.Names {
		other, ok := get(b, key)
		if !ok {
			continue
		}
		if v := lower(part, a.Parts[i], other); !value.Equal(v, least) {
			m.Names, m.Parts = append(m.Names, key), append(m.Parts, v)
		}
	}
	return m
}

// upperEntries returns the entries of a and b that are not below or equal to another one of them, in their order.
func upperEntries(a, b []api.Entry) []api.Entry {
	var list []api.Entry
	for _, e := range a {
		if !slices.ContainsFunc(b, func(other api.Entry) bool { return isBelow(e, other) }) {
			list = append(list, copies.Entry(e))
		}
	}
	// An entry of both is among those of a already.
	for _, e := range b {
		if !isCovered(e, a) {
			list = append(list, copies.Entry(e))
		}
	}
	slices.SortFunc(list, compareEntries)
	return list
}

// compareEntries compares p and q in the order of entries, which is that of the registers that consist of them.
func compareEntries(p, q api.Entry) int {
	return value.Compare(api.Value{Entries: []api.Entry{p}}, api.Value{Entries: []api.Entry{q}})
}
