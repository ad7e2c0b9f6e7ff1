// Package sample builds small descriptions of lattices and values for the tests of the layers, and computes the order of elements directly by its definition. It uses no layer, so that the layers can be compared with it.
package sample

import "plexus/api"

// Bounds returns a description of the kind Max or Min.
func Bounds(kind int, lo, hi int64) api.Lattice { return api.Lattice{Kind: kind, Lo: lo, Hi: hi} }

// Words returns a description of a kind that has names alone.
func Words(kind int, list ...string) api.Lattice { return api.Lattice{Kind: kind, Names: list} }

// MapOf returns a description of maps from the names of a list, or from all names if it is empty.
func MapOf(part api.Lattice, list ...string) api.Lattice {
	return api.Lattice{Kind: api.Map, Names: list, Parts: []api.Lattice{part}}
}

// Lex returns a description of pairs.
func Lex(first, second api.Lattice) api.Lattice {
	return api.Lattice{Kind: api.Lex, Parts: []api.Lattice{first, second}}
}

// Product returns a description with the fields z, y, x and so on.
func Product(parts ...api.Lattice) api.Lattice {
	l := api.Lattice{Kind: api.Product, Parts: parts}
	for i := range parts {
		l.Names = append(l.Names, string(rune('z'-i)))
	}
	return l
}

// Closed returns a description of closed sets.
func Closed(list []string, rules ...api.Rule) api.Lattice {
	return api.Lattice{Kind: api.Closed, Names: list, Rules: rules}
}

// Number returns a Flag, a number, or the bottom or the top of a Flat.
func Number(n int64) api.Value { return api.Value{N: n} }

// Named returns a set.
func Named(list ...string) api.Value { return api.Value{Names: list} }

// Parts returns a product or a pair.
func Parts(list ...api.Value) api.Value { return api.Value{Parts: list} }

// Atom returns a name of a Flat.
func Atom(s string) api.Value { return api.Value{N: 1, Names: []string{s}} }

// Keyed returns the map of the names to the values.
func Keyed(list []string, values ...api.Value) api.Value {
	return api.Value{Names: list, Parts: values}
}

// Entry returns an entry whose ticks have the processes and numbers of a list.
func Entry(name string, list ...int64) api.Entry {
	e := api.Entry{Name: name}
	for i := 0; i < len(list); i += 2 {
		e.Clock = append(e.Clock, api.Tick{Process: int(list[i]), N: list[i+1]})
	}
	return e
}

// Written returns a register.
func Written(list ...api.Entry) api.Value { return api.Value{Entries: list} }
