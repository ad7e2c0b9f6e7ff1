package sample

import (
	"slices"

	"plexus/api"
)

// Leq reports whether a <= b for two elements of a valid description.
func Leq(l api.Lattice, a, b api.Value) bool {
	switch l.Kind {
	case api.Flag, api.Max:
		return a.N <= b.N
	case api.Min:
		return a.N >= b.N
	case api.Set, api.Closed:
		return !slices.ContainsFunc(a.Names, func(s string) bool { return !slices.Contains(b.Names, s) })
	case api.Map:
		for i, key := range a.Names {
			k := slices.Index(b.Names, key)
			if k < 0 || !Leq(l.Parts[0], a.Parts[i], b.Parts[k]) {
				return false
			}
		}
		return true
	case api.Product:
		for i, part := range l.Parts {
			if !Leq(part, a.Parts[i], b.Parts[i]) {
				return false
			}
		}
		return true
	case api.Lex:
		if Same(a.Parts[0], b.Parts[0]) {
			return Leq(l.Parts[1], a.Parts[1], b.Parts[1])
		}
		return Leq(l.Parts[0], a.Parts[0], b.Parts[0])
	case api.Flat:
		return a.N == 0 || b.N == 2 || Same(a, b)
	}
	for _, e := range a.Entries {
		if !slices.ContainsFunc(b.Entries, func(other api.Entry) bool { return sameEntry(e, other) || Below(e.Clock, other.Clock) }) {
			return false
		}
	}
	return true
}

// Below reports whether a version vector is strictly below another one.
func Below(a, b []api.Tick) bool {
	var x, y [api.MaxProcess + 1]int64
	for _, t := range a {
		x[t.Process] = t.N
	}
	for _, t := range b {
		y[t.Process] = t.N
	}
	for p := range x {
		if x[p] > y[p] {
			return false
		}
	}
	return x != y
}

// Same reports whether all fields of two values are equal.
func Same(a, b api.Value) bool {
	return a.N == b.N && slices.Equal(a.Names, b.Names) && slices.EqualFunc(a.Parts, b.Parts, Same) && slices.EqualFunc(a.Entries, b.Entries, sameEntry)
}

// sameEntry reports whether two entries are equal.
func sameEntry(a, b api.Entry) bool {
	return a.Name == b.Name && slices.Equal(a.Clock, b.Clock)
}

// Table is a description with the elements that Elements returns, and their order.
type Table struct {
	Lattice api.Lattice
	All     []api.Value
	leq     [][]bool
}

// NewTable returns the table of a valid description.
func NewTable(l api.Lattice) *Table { return TableOf(l, Elements(l)) }

// TableOf returns the table of a valid description, with all elements in an order of their own.
func TableOf(l api.Lattice, all []api.Value) *Table {
	t := &Table{Lattice: l, All: all}
	for _, a := range t.All {
		var row []bool
		for _, b := range t.All {
			row = append(row, Leq(l, a, b))
		}
		t.leq = append(t.leq, row)
	}
	return t
}

// NewTables returns the tables of several descriptions.
func NewTables(list []api.Lattice) []*Table {
	var tables []*Table
	for _, l := range list {
		tables = append(tables, NewTable(l))
	}
	return tables
}

// Leq reports whether the element with the index i is below or equal to the one with the index k.
func (t *Table) Leq(i, k int) bool { return t.leq[i][k] }

// Less reports whether the element with the index i is below the one with the index k, and another one.
func (t *Table) Less(i, k int) bool { return t.leq[i][k] && i != k }

// Least returns the index of the one wanted element that is below or equal to all wanted ones, or -1.
func (t *Table) Least(wanted func(i int) bool) int { return t.extreme(wanted, t.Leq) }

// Greatest returns the index of the one wanted element that is above or equal to all wanted ones, or -1.
func (t *Table) Greatest(wanted func(i int) bool) int {
	return t.extreme(wanted, func(i, k int) bool { return t.Leq(k, i) })
}

// extreme returns the index of the wanted element that is before or equal to all wanted ones, or -1.
func (t *Table) extreme(wanted func(i int) bool, before func(i, k int) bool) int {
	found := -1
	for i := range t.All {
		if wanted(i) && (found < 0 || before(i, found)) {
			found = i
		}
	}
	for i := range t.All {
		if wanted(i) && !before(found, i) {
			return -1
		}
	}
	return found
}

// Upper returns the index of the least upper bound of the elements with some indices.
func (t *Table) Upper(list ...int) int {
	return t.Least(func(i int) bool {
		return !slices.ContainsFunc(list, func(k int) bool { return !t.Leq(k, i) })
	})
}

// Lower returns the index of the greatest lower bound of the elements with some indices.
func (t *Table) Lower(list ...int) int {
	return t.Greatest(func(i int) bool {
		return !slices.ContainsFunc(list, func(k int) bool { return !t.Leq(i, k) })
	})
}

// Pick returns the elements with some indices.
func (t *Table) Pick(list ...int) []api.Value {
	var values []api.Value
	for _, i := range list {
		values = append(values, t.All[i])
	}
	return values
}
