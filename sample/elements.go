package sample

import (
	"slices"

	"plexus/api"
)

// Elements returns all elements of a valid description; but if it allows all names, only those with the names a and b, and of registers only those with some entries. They contain the bounds of any two of them.
func Elements(l api.Lattice) []api.Value {
	switch l.Kind {
	case api.Flag:
		return []api.Value{Number(0), Number(1)}
	case api.Max, api.Min:
		return numbers(l.Lo, l.Hi)
	case api.Set, api.Closed:
		return sets(l)
	case api.Flat:
		all := []api.Value{Number(0), Number(2)}
		for _, s := range allowed(l) {
			all = append(all, Atom(s))
		}
		return all
	case api.Map:
		return maps(l)
	case api.Register:
		return registers()
	}
	var choices [][]api.Value
	for _, part := range l.Parts {
		choices = append(choices, Elements(part))
	}
	var all []api.Value
	for _, values := range tuples(choices) {
		all = append(all, Parts(values...))
	}
	return all
}

// Lists returns all lists of up to n elements of a pool.
func Lists[T any](pool []T, n int) [][]T {
	all := [][]T{nil}
	for next := 0; next < len(all); next++ {
		if len(all[next]) < n {
			for _, x := range pool {
				all = append(all, append(slices.Clone(all[next]), x))
			}
		}
	}
	return all
}

// allowed returns the names of a description, or a and b if it allows all.
func allowed(l api.Lattice) []string {
	if len(l.Names) == 0 {
		return []string{"a", "b"}
	}
	return l.Names
}

// numbers returns all numbers from lo to hi.
func numbers(lo, hi int64) []api.Value {
	var all []api.Value
	for n := lo; n <= hi; n++ {
		all = append(all, Number(n))
	}
	return all
}

// sets returns the elements of a Set or a Closed.
func sets(l api.Lattice) []api.Value {
	var all []api.Value
	for mask := range 1 << len(allowed(l)) {
		if list := chosen(allowed(l), mask); respects(list, l.Rules) {
			all = append(all, Named(list...))
		}
	}
	return all
}

// maps returns the elements of a Map.
func maps(l api.Lattice) []api.Value {
	present := Elements(l.Parts[0])
	isBelowAll := func(v api.Value) bool {
		return !slices.ContainsFunc(present, func(other api.Value) bool { return !Leq(l.Parts[0], v, other) })
	}
	at := slices.IndexFunc(present, isBelowAll)
	present = slices.Delete(present, at, at+1)
	var all []api.Value
	for mask := range 1 << len(allowed(l)) {
		keys := chosen(allowed(l), mask)
		for _, values := range tuples(slices.Repeat([][]api.Value{present}, len(keys))) {
			all = append(all, Keyed(keys, values...))
		}
	}
	return all
}

// registers returns the registers with some entries.
func registers() []api.Value {
	pool := []api.Entry{Entry("a", 1, 1), Entry("a", 1, 2), Entry("a", 2, 1), Entry("b", 1, 1), Entry("b", 1, 1, 2, 1)}
	var all []api.Value
	for mask := range 1 << len(pool) {
		if list := chosen(pool, mask); areUnordered(list) {
			all = append(all, Written(list...))
		}
	}
	return all
}

// areUnordered reports whether no clock of an entry is strictly below that of another one.
func areUnordered(list []api.Entry) bool {
	for _, e := range list {
		if slices.ContainsFunc(list, func(other api.Entry) bool { return Below(e.Clock, other.Clock) }) {
			return false
		}
	}
	return true
}

// chosen returns the elements whose bits are set.
func chosen[T any](list []T, mask int) []T {
	var some []T
	for i, x := range list {
		if mask>>i&1 == 1 {
			some = append(some, x)
		}
	}
	return some
}

// respects reports whether a set is closed under rules.
func respects(list []string, rules []api.Rule) bool {
	for _, r := range rules {
		lacks := slices.ContainsFunc(r.If, func(s string) bool { return !slices.Contains(list, s) })
		if !lacks && !slices.Contains(list, r.Then) {
			return false
		}
	}
	return true
}

// tuples returns all lists with one value of each choice.
func tuples(choices [][]api.Value) [][]api.Value {
	all := [][]api.Value{nil}
	for _, choice := range choices {
		var longer [][]api.Value
		for _, list := range all {
			for _, v := range choice {
				longer = append(longer, append(slices.Clone(list), v))
			}
		}
		all = longer
	}
	return all
}
