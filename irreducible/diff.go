package irreducible

import (
	"slices"

	"plexus/api"
	"plexus/clock"
	"plexus/copies"
	"plexus/join"
	"plexus/names"
	"plexus/value"
)

// Diff returns what a adds to b.
func Diff(l api.Lattice, a, b api.Value) (api.Value, api.Errno) {
	if e := check(l, a, b); e != api.OK {
		return api.Value{}, e
	}
	return diff(l, a, b), api.OK
}

// diff returns a - b for two elements of a valid description.
func diff(l api.Lattice, a, b api.Value) api.Value {
	// These kinds have the bottom as their difference by themselves if a <= b.
	switch l.Kind {
	case api.Set:
		return api.Value{Names: names.Minus(a.Names, b.Names)}
	case api.Map:
		return diffMap(l.Parts[0], a, b)
	case api.Product:
		fields := make([]api.Value, len(l.Parts))
		for i := range len(fields) {
			fields[i] = diff(l.Parts[i], a.Parts[i], b.Parts[i])
		}
		return api.Value{Parts: fields}
	case api.Register:
		return api.Value{Entries: diffEntries(a.Entries, b.Entries)}
	}
	if join.Leq(l, a, b) {
		return bottom(l)
	}
	if l.Kind == api.Lex && value.Equal(a.Parts[0], b.Parts[0]) {
		return api.Value{Parts: []api.Value{copyOf(l.Parts[0], a.Parts[0]), diff(l.Parts[1], a.Parts[1], b.Parts[1])}}
	}
	return copyOf(l, a)
}

// diffMap returns the keys of a whose values add something to those in b, with what they add.
func diffMap(part api.Lattice, a, b api.Value) api.Value {
	least := bottom(part)
	var m api.Value
	for i, key := range a.Names {
		other := least
		if at, ok := slices.BinarySearch(b.Names, key); ok {
			other = b.Parts[at]
		}
		if v := diff(part, a.Parts[i], other); !value.Equal(v, least) {
			m.Names, m.Parts = append(m.Names, key), append(m.Parts, v)
		}
	}
	return m
}

// diffEntries returns the entries of a that are not below or equal to an entry of b.
func diffEntries(a, b []api.Entry) []api.Entry {
	var list []api.Entry
	for _, e := range a {
		covers := func(other api.Entry) bool {
			return other.Name == e.Name && slices.Equal(other.Clock, e.Clock) || clock.Compare(e.Clock, other.Clock) == clock.Before
		}
		if !slices.ContainsFunc(b, covers) {
			list = append(list, copies.Entry(e))
		}
	}
	return list
}
