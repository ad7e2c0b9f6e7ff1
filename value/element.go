package value

import (
	"plexus/api"
	"plexus/clock"
	"plexus/closure"
	"plexus/names"
)

// The numbers of the elements of a Flat.
const (
	flatBottom = 0
	flatName   = 1
	flatTop    = 2
)

// isElement reports whether v is an element of a valid description.
func isElement(l api.Lattice, v api.Value) bool {
	if !hasNoOtherFields(l.Kind, v) {
		return false
	}
	switch l.Kind {
	case api.Flag:
		return v.N == 0 || v.N == 1
	case api.Max, api.Min:
		return l.Lo <= v.N && v.N <= l.Hi
	case api.Set:
		return areNames(l, v.Names)
	case api.Map:
		return areNames(l, v.Names) && len(v.Parts) == len(v.Names) && areAboveBottom(l.Parts[0], v.Parts)
	case api.Product, api.Lex:
		return areElements(l.Parts, v.Parts)
	case api.Flat:
		return isFlat(l, v)
	case api.Register:
		return areEntries(v.Entries) && areUnordered(v.Entries)
	case api.Closed:
		closed, e := closure.Closed(l.Names, l.Rules, v.Names)
		return e == api.OK && closed
	}
	return false
}

// hasNoOtherFields reports whether the fields of v that a kind does not use are zero.
func hasNoOtherFields(kind int, v api.Value) bool {
	switch kind {
	case api.Flag, api.Max, api.Min:
		v.N = 0
	case api.Set, api.Closed:
		v.Names = nil
	case api.Map:
		v.Names, v.Parts = nil, nil
	case api.Product, api.Lex:
		v.Parts = nil
	case api.Flat:
		v.N, v.Names = 0, nil
	case api.Register:
		v.Entries = nil
	}
	return v.N == 0 && len(v.Names) == 0 && len(v.Parts) == 0 && len(v.Entries) == 0
}

// areNames reports whether list is sorted and consists of names that a Set, Map or Flat allows.
func areNames(l api.Lattice, list []string) bool {
	for _, s := range list {
		if !names.Valid(s) || len(l.Names) > 0 && !names.Has(l.Names, s) {
			return false
		}
	}
	return names.Sorted(list)
}

// areAboveBottom reports whether all values of a list are elements of l other than its bottom.
func areAboveBottom(l api.Lattice, list []api.Value) bool {
	least := bottom(l)
	for _, v := range list {
		if !isElement(l, v) || Equal(v, least) {
			return false
		}
	}
	return true
}

// areElements reports whether a list has an element of each description, in their order.
func areElements(parts []api.Lattice, list []api.Value) bool {
	if len(list) != len(parts) {
		return false
	}
	for i := range len(parts) {
		if !isElement(parts[i], list[i]) {
			return false
		}
	}
	return true
}

// isFlat reports whether v, which has no fields but a number and names, is an element of a Flat.
func isFlat(l api.Lattice, v api.Value) bool {
	if v.N == flatName {
		return len(v.Names) == 1 && areNames(l, v.Names)
	}
	return (v.N == flatBottom || v.N == flatTop) && len(v.Names) == 0
}

// areEntries reports whether all elements of a list are entries, strictly increasing.
func areEntries(list []api.Entry) bool {
	for i, e := range list {
		if len(e.Clock) == 0 || !clock.Valid(e.Clock) || !names.Valid(e.Name) {
			return false
		}
		if i > 0 && compareEntries(list[i-1], e) >= 0 {
			return false
		}
	}
	return true
}

// areUnordered reports whether no clock of an entry is strictly below that of another one.
func areUnordered(list []api.Entry) bool {
	for i := range len(list) {
		for k := range i {
			switch clock.Compare(list[k].Clock, list[i].Clock) {
			case clock.Before, clock.After:
				return false
			}
		}
	}
	return true
}
