package value

import (
	"cmp"
	"slices"

	"plexus/api"
)

// Equal reports whether a and b have the same content.
func Equal(a, b api.Value) bool {
	return Compare(a, b) == 0
}

// Compare compares a and b in a total order of all values.
func Compare(a, b api.Value) int {
	if c := cmp.Compare(a.N, b.N); c != 0 {
		return c
	}
	if c := slices.Compare(a.Names, b.Names); c != 0 {
		return c
	}
	if c := slices.CompareFunc(a.Parts, b.Parts, Compare); c != 0 {
		return c
	}
	return slices.CompareFunc(a.Entries, b.Entries, compareEntries)
}

// compareEntries compares a and b in the order of entries.
func compareEntries(a, b api.Entry) int {
	if c := cmp.Compare(a.Name, b.Name); c != 0 {
		return c
	}
	return slices.CompareFunc(a.Clock, b.Clock, compareTicks)
}

// compareTicks compares a and b by their processes, then by their numbers.
func compareTicks(a, b api.Tick) int {
	if c := cmp.Compare(a.Process, b.Process); c != 0 {
		return c
	}
	return cmp.Compare(a.N, b.N)
}
