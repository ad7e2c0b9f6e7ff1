package value

import (
	"plexus/api"
	"plexus/sample"
)

// What follows computes the definitions of the chapter directly, for small descriptions and values.

// Descriptions and values that the tests are built from.
var (
	flag     = api.Lattice{Kind: api.Flag}
	set      = api.Lattice{Kind: api.Set}
	flat     = api.Lattice{Kind: api.Flat}
	register = api.Lattice{Kind: api.Register}
	five     = api.Lattice{Kind: api.Max, Hi: 5}
	single   = api.Lattice{Kind: api.Max, Lo: 1, Hi: 1} // a trivial lattice
	note     = api.Lattice{Kind: api.Product, Names: []string{"c", "a"}, Parts: []api.Lattice{{Kind: api.Max, Hi: 9}, set}}
)

// Short names for what the tests are built with.
var (
	bounds, words, mapOf, lex, product, closed        = sample.Bounds, sample.Words, sample.MapOf, sample.Lex, sample.Product, sample.Closed
	number, named, parts, atom, keyed, entry, written = sample.Number, sample.Named, sample.Parts, sample.Atom, sample.Keyed, sample.Entry, sample.Written
	finite, elements, same, isBelow                   = sample.Finite, sample.Elements, sample.Same, sample.Below
)

// least returns the only element that is below all others, found by comparing all elements of a finite description.
func least(l api.Lattice) api.Value {
	t := sample.NewTable(l)
	return t.All[t.Upper()]
}

// candidates returns small values, elements of some description or not.
func candidates() []api.Value {
	var simple, all []api.Value
	for n := int64(-2); n < 5; n++ {
		simple = append(simple, number(n))
	}
	for _, list := range sample.Lists([]string{"a", "b", "c", "A"}, 3) {
		simple = append(simple, named(list...))
		for n := int64(-1); n < 4 && len(list) < 3; n++ {
			all = append(all, api.Value{N: n, Names: list})
		}
	}
	all = append(all, simple...)
	pool := append([]api.Value{number(-1), number(1), number(2), number(3), named(), named("a"), named("b"), named("a", "b"), named("b", "a"), atom("a"), atom("c"), parts(number(1)), parts(number(0)), parts(number(1), number(1)), keyed([]string{"a"}, number(1)), keyed([]string{"a"}), keyed([]string{"a"}, number(0)), written(entry("a", 1, 1)), {N: 2, Names: []string{"a"}}}, parts(number(0), number(1)), parts(number(1), named()))
	for _, values := range sample.Lists(pool, 2) {
		for _, list := range sample.Lists([]string{"a", "b", "c"}, 2) {
			v := keyed(list, values...)
			all = append(all, v)
			v.N = 1
			all = append(all, v)
		}
	}
	for _, v := range simple {
		for _, w := range simple[:12] {
			all = append(all, parts(v, w), parts(w, v), parts(v, w, v), api.Value{N: v.N, Names: v.Names, Entries: []api.Entry{{}}})
		}
		all = append(all, parts(v), parts(parts(v)), parts(parts(v), number(0)), parts(number(1), keyed([]string{"a"}, v)))
	}
	return all
}

// clocks are version vectors, and lists that are none.
func clocks() [][]api.Tick {
	var all [][]api.Tick
	for _, e := range []api.Entry{entry(""), entry("", 1, 1), entry("", 1, 2), entry("", 2, 1), entry("", 1, 1, 2, 1), entry("", 1, 2, 2, 1), entry("", 2, 1, 1, 1), entry("", 1, 0), entry("", 64, 1), entry("", 1, 1, 1, 1)} {
		all = append(all, e.Clock)
	}
	return all
}

// isVector reports whether a list of ticks is a version vector with at least one tick.
func isVector(c []api.Tick) bool {
	for i, t := range c {
		if t.Process < 0 || t.Process > 63 || t.N < 1 || t.N > 1e15 || i > 0 && c[i-1].Process >= t.Process {
			return false
		}
	}
	return len(c) > 0
}

// precedes reports whether an entry comes before another one, which has a version vector too.
func precedes(a, b api.Entry) bool {
	if a.Name != b.Name {
		return a.Name < b.Name
	}
	for i, t := range a.Clock {
		switch {
		case i == len(b.Clock):
			return false
		case t.Process != b.Clock[i].Process:
			return t.Process < b.Clock[i].Process
		case t.N != b.Clock[i].N:
			return t.N < b.Clock[i].N
		}
	}
	return len(a.Clock) < len(b.Clock)
}

// isRegister computes the definition of the elements of a register.
func isRegister(list []api.Entry) bool {
	for _, e := range list {
		if !isVector(e.Clock) || e.Name != "a" && e.Name != "b" {
			return false
		}
	}
	for i, e := range list {
		for k, f := range list {
			if isBelow(e.Clock, f.Clock) || i < k && !precedes(e, f) {
				return false
			}
		}
	}
	return true
}

// registers returns lists of entries, some of them elements of a register.
func registers() [][]api.Entry {
	var pool, good []api.Entry
	for _, c := range clocks() {
		for _, s := range []string{"a", "b", "B"} {
			pool = append(pool, api.Entry{Clock: c, Name: s})
			if isVector(c) && s != "B" {
				good = append(good, api.Entry{Clock: c, Name: s})
			}
		}
	}
	return append(sample.Lists(pool, 2), sample.Lists(good, 4)...)
}
