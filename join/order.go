package join

import (
	"slices"

	"plexus/api"
	"plexus/clock"
	"plexus/names"
	"plexus/value"
)

// The numbers of the least and the greatest element of a Flat.
const (
	flatBottom = 0
	flatTop    = 2
)

// leq reports whether a <= b for two elements of a valid description.
func leq(l api.Lattice, a, b api.Value) bool {
	switch l.Kind {
	case api.Flag, api.Max:
		return a.N <= b.N
	case api.Min:
		return a.N >= b.N
	case api.Set, api.Closed:
		return names.Subset(a.Names, b.Names)
	case api.Map:
		return leqMap(l.Parts[0], a, b)
	case api.Product:
		return leqParts(l.Parts, a.Parts, b.Parts)
	case api.Lex:
		if value.Equal(a.Parts[0], b.Parts[0]) {
			return leq(l.Parts[1], a.Parts[1], b.Parts[1])
		}
		return leq(l.Parts[0], a.Parts[0], b.Parts[0])
	case api.Flat:
		return a.N == flatBottom || b.N == flatTop || value.Equal(a, b)
	}
	return leqEntries(a.Entries, b.Entries)
}

// leqMap reports whether each key of a has a value in b that is not below its value in a.
func leqMap(part api.Lattice, a, b api.Value) bool {
	for i, key := range a.Names {
		v, ok := get(b, key)
		if !ok || !leq(part, a.Parts[i], v) {
			return false
		}
	}
	return true
}

// get returns the value of a key in a map, and whether there is one.
func get(m api.Value, key string) (api.Value, bool) {
	at, ok := slices.BinarySearch(m.Names, key)
	if !ok {
		return api.Value{}, false
	}
	return m.Parts[at], true
}

// leqParts reports whether each part of a is below or equal to that of b.
func leqParts(list []api.Lattice, a, b []api.Value) bool {
	for i, l := range list {
		if !leq(l, a[i], b[i]) {
			return false
		}
	}
	return true
}

// leqEntries reports whether each entry of a is below or equal to an entry of b.
func leqEntries(a, b []api.Entry) bool {
	for _, e := range a {
		if !isCovered(e, b) {
			return false
		}
	}
	return true
}

// isCovered reports whether e is below or equal to an entry of list.
func isCovered(e api.Entry, list []api.Entry) bool {
	for _, other := range list {
		if isSame(e, other) || isBelow(e, other) {
			return true
		}
	}
	return false
}

// isBelow reports whether the clock of p is strictly below that of q.
func isBelow(p, q api.Entry) bool {
	return clock.Compare(p.Clock, q.Clock) == clock.Before
}

// isSame reports whether p and q are the same entry.
func isSame(p, q api.Entry) bool {
	return p.Name == q.Name && slices.Equal(p.Clock, q.Clock)
}
