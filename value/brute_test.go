package value

import (
	"slices"

	"plexus/api"
)

// What follows computes the definitions of the chapter directly, for small descriptions and values.

// Descriptions and values that the tests are built from.
var (
	flag     = api.Lattice{Kind: api.Flag}
	set      = api.Lattice{Kind: api.Set}
	flat     = api.Lattice{Kind: api.Flat}
	register = api.Lattice{Kind: api.Register}
	five     = api.Lattice{Kind: api.Max, Hi: 5}
	single   = api.Lattice{Kind: api.Max, Lo: 1, Hi: 1} // a trivial lattice
	note     = api.Lattice{Kind: api.Product, Names: []string{"c", "a"}, Parts: []api.Lattice{{Kind: api.Max, Hi: 9}, set}}
)

func bounds(kind int, lo, hi int64) api.Lattice { return api.Lattice{Kind: kind, Lo: lo, Hi: hi} }

func words(kind int, list ...string) api.Lattice { return api.Lattice{Kind: kind, Names: list} }

func mapOf(part api.Lattice, list ...string) api.Lattice {
	return api.Lattice{Kind: api.Map, Names: list, Parts: []api.Lattice{part}}
}

func lex(first, second api.Lattice) api.Lattice {
	return api.Lattice{Kind: api.Lex, Parts: []api.Lattice{first, second}}
}

// product has the fields z, y, x and so on.
func product(parts ...api.Lattice) api.Lattice {
	l := api.Lattice{Kind: api.Product, Parts: parts}
	for i := range parts {
		l.Names = append(l.Names, string(rune('z'-i)))
	}
	return l
}

func closed(list []string, rules ...api.Rule) api.Lattice {
	return api.Lattice{Kind: api.Closed, Names: list, Rules: rules}
}

func number(n int64) api.Value { return api.Value{N: n} }

func named(list ...string) api.Value { return api.Value{Names: list} }

func parts(list ...api.Value) api.Value { return api.Value{Parts: list} }

func atom(s string) api.Value { return api.Value{N: 1, Names: []string{s}} }

// keyed is a map of the names to the values.
func keyed(list []string, values ...api.Value) api.Value {
	return api.Value{Names: list, Parts: values}
}

// entry has the ticks of a list of processes and numbers.
func entry(name string, list ...int64) api.Entry {
	e := api.Entry{Name: name}
	for i := 0; i < len(list); i += 2 {
		e.Clock = append(e.Clock, api.Tick{Process: int(list[i]), N: list[i+1]})
	}
	return e
}

func written(list ...api.Entry) api.Value { return api.Value{Entries: list} }

// finite are descriptions with few elements.
func finite() []api.Lattice {
	ab, abc := []string{"a", "b"}, []string{"a", "b", "c"}
	return []api.Lattice{
		flag, bounds(api.Max, -1, 2), bounds(api.Min, -1, 2), single, bounds(api.Min, 0, 0), words(api.Set, "a"), words(api.Set, "a", "b"), words(api.Flat, "a"), words(api.Flat, "a", "b"), words(api.Flat, "b"),
		closed(ab), closed(ab, api.Rule{If: []string{"a"}, Then: "b"}), closed(ab, api.Rule{If: []string{"b"}, Then: "a"}, api.Rule{If: []string{"a"}, Then: "b"}), closed(abc, api.Rule{If: ab, Then: "c"}), closed([]string{"b"}),
		mapOf(flag, "a"), mapOf(flag, "a", "b"), mapOf(bounds(api.Max, 1, 3), "a", "b"), mapOf(bounds(api.Min, 0, 1), "b"), mapOf(single, "a"), mapOf(words(api.Set, "a", "b"), "a"), mapOf(words(api.Flat, "a"), "a", "b"), mapOf(mapOf(flag, "a"), "a", "b"), mapOf(product(flag, single), "a"), mapOf(closed(ab, api.Rule{If: []string{"a"}, Then: "b"}), "b"),
		product(flag), product(flag, bounds(api.Max, 0, 2)), product(words(api.Set, "a", "b"), flag), product(single, single), product(mapOf(single, "a"), words(api.Flat, "a")), product(product(flag), flag),
		lex(flag, flag), lex(bounds(api.Min, 1, 2), words(api.Set, "a", "b")), lex(lex(flag, flag), flag), lex(single, words(api.Flat, "b")), lex(single, single), lex(flag, mapOf(flag, "a", "b")),
	}
}

// elements returns all elements of a finite description.
func elements(l api.Lattice) []api.Value {
	var all []api.Value
	switch l.Kind {
	case api.Flag:
		all = []api.Value{number(0), number(1)}
	case api.Max, api.Min:
		for n := l.Lo; n <= l.Hi; n++ {
			all = append(all, number(n))
		}
	case api.Set, api.Closed:
		for mask := range 1 << len(l.Names) {
			if list := chosen(l.Names, mask); respects(list, l.Rules) {
				all = append(all, named(list...))
			}
		}
	case api.Flat:
		all = []api.Value{number(0), number(2)}
		for _, s := range l.Names {
			all = append(all, atom(s))
		}
	case api.Map:
		least := least(l.Parts[0])
		present := slices.DeleteFunc(elements(l.Parts[0]), func(v api.Value) bool { return same(v, least) })
		for mask := range 1 << len(l.Names) {
			keys := chosen(l.Names, mask)
			for _, values := range tuples(slices.Repeat([][]api.Value{present}, len(keys))) {
				all = append(all, keyed(keys, values...))
			}
		}
	case api.Product, api.Lex:
		var choices [][]api.Value
		for _, part := range l.Parts {
			choices = append(choices, elements(part))
		}
		for _, values := range tuples(choices) {
			all = append(all, parts(values...))
		}
	}
	return all
}

// chosen returns the names whose bits are set.
func chosen(list []string, mask int) []string {
	var some []string
	for i, s := range list {
		if mask>>i&1 == 1 {
			some = append(some, s)
		}
	}
	return some
}

// respects reports whether a set is closed under rules.
func respects(list []string, rules []api.Rule) bool {
	for _, r := range rules {
		missing := slices.ContainsFunc(r.If, func(s string) bool { return !slices.Contains(list, s) })
		if !missing && !slices.Contains(list, r.Then) {
			return false
		}
	}
	return true
}

// tuples returns all lists with one value of each choice.
func tuples(choices [][]api.Value) [][]api.Value {
	all := [][]api.Value{nil}
	for _, choice := range choices {
		var longer [][]api.Value
		for _, list := range all {
			for _, v := range choice {
				longer = append(longer, append(slices.Clone(list), v))
			}
		}
		all = longer
	}
	return all
}

// least returns the only element that is below all others, found by comparing all elements of a finite description.
func least(l api.Lattice) api.Value {
	all := elements(l)
	return extreme(all, func(a, b api.Value) bool { return below(l, a, b) })[0]
}

// extreme returns the values that are before all values of a list.
func extreme(all []api.Value, before func(a, b api.Value) bool) []api.Value {
	var found []api.Value
	for _, a := range all {
		if !slices.ContainsFunc(all, func(b api.Value) bool { return !before(a, b) }) {
			found = append(found, a)
		}
	}
	return found
}

// below is the order of the elements of a description without registers (chapter 11).
func below(l api.Lattice, a, b api.Value) bool {
	switch l.Kind {
	case api.Flag, api.Max:
		return a.N <= b.N
	case api.Min:
		return a.N >= b.N
	case api.Set, api.Closed:
		return !slices.ContainsFunc(a.Names, func(s string) bool { return !slices.Contains(b.Names, s) })
	case api.Map:
		for i, key := range a.Names {
			k := slices.Index(b.Names, key)
			if k < 0 || !below(l.Parts[0], a.Parts[i], b.Parts[k]) {
				return false
			}
		}
		return true
	case api.Product:
		for i, part := range l.Parts {
			if !below(part, a.Parts[i], b.Parts[i]) {
				return false
			}
		}
		return true
	case api.Lex:
		if same(a.Parts[0], b.Parts[0]) {
			return below(l.Parts[1], a.Parts[1], b.Parts[1])
		}
		return below(l.Parts[0], a.Parts[0], b.Parts[0])
	}
	return a.N == 0 || b.N == 2 || same(a, b)
}

// same reports whether all fields of two values are equal.
func same(a, b api.Value) bool {
	return a.N == b.N && slices.Equal(a.Names, b.Names) && slices.EqualFunc(a.Parts, b.Parts, same) &&
		slices.EqualFunc(a.Entries, b.Entries, func(x, y api.Entry) bool { return x.Name == y.Name && slices.Equal(x.Clock, y.Clock) })
}

// lists returns all lists of up to n elements of a pool.
func lists[T any](pool []T, n int) [][]T {
	all := [][]T{nil}
	for next := 0; next < len(all); next++ {
		if len(all[next]) < n {
			for _, x := range pool {
				all = append(all, append(slices.Clone(all[next]), x))
			}
		}
	}
	return all
}

// candidates returns small values, elements of some description or not.
func candidates() []api.Value {
	var simple, all []api.Value
	for n := int64(-2); n < 5; n++ {
		simple = append(simple, number(n))
	}
	for _, list := range lists([]string{"a", "b", "c", "A"}, 3) {
		simple = append(simple, named(list...))
		for n := int64(-1); n < 4 && len(list) < 3; n++ {
			all = append(all, api.Value{N: n, Names: list})
		}
	}
	all = append(all, simple...)
	pool := append([]api.Value{number(-1), number(1), number(2), number(3), named(), named("a"), named("b"), named("a", "b"), named("b", "a"), atom("a"), atom("c"), parts(number(1)), parts(number(0)), parts(number(1), number(1)), keyed([]string{"a"}, number(1)), keyed([]string{"a"}), keyed([]string{"a"}, number(0)), written(entry("a", 1, 1)), {N: 2, Names: []string{"a"}}}, parts(number(0), number(1)), parts(number(1), named()))
	for _, values := range lists(pool, 2) {
		for _, list := range lists([]string{"a", "b", "c"}, 2) {
			v := keyed(list, values...)
			all = append(all, v)
			v.N = 1
			all = append(all, v)
		}
	}
	for _, v := range simple {
		for _, w := range simple[:12] {
			all = append(all, parts(v, w), parts(w, v), parts(v, w, v), api.Value{N: v.N, Names: v.Names, Entries: []api.Entry{{}}})
		}
		all = append(all, parts(v), parts(parts(v)), parts(parts(v), number(0)), parts(number(1), keyed([]string{"a"}, v)))
	}
	return all
}

// clocks are version vectors, and lists that are none.
func clocks() [][]api.Tick {
	var all [][]api.Tick
	for _, e := range []api.Entry{entry(""), entry("", 1, 1), entry("", 1, 2), entry("", 2, 1), entry("", 1, 1, 2, 1), entry("", 1, 2, 2, 1), entry("", 2, 1, 1, 1), entry("", 1, 0), entry("", 64, 1), entry("", 1, 1, 1, 1)} {
		all = append(all, e.Clock)
	}
	return all
}

// isVector reports whether a list of ticks is a version vector with at least one tick.
func isVector(c []api.Tick) bool {
	for i, t := range c {
		if t.Process < 0 || t.Process > 63 || t.N < 1 || t.N > 1e15 || i > 0 && c[i-1].Process >= t.Process {
			return false
		}
	}
	return len(c) > 0
}

// isBelow reports whether a version vector is strictly below another one.
func isBelow(a, b []api.Tick) bool {
	var x, y [64]int64
	for _, t := range a {
		x[t.Process] = t.N
	}
	for _, t := range b {
		y[t.Process] = t.N
	}
	for p := range x {
		if x[p] > y[p] {
			return false
		}
	}
	return x != y
}

// precedes reports whether an entry comes before another one, which has a version vector too.
func precedes(a, b api.Entry) bool {
	if a.Name != b.Name {
		return a.Name < b.Name
	}
	for i, t := range a.Clock {
		switch {
		case i == len(b.Clock):
			return false
		case t.Process != b.Clock[i].Process:
			return t.Process < b.Clock[i].Process
		case t.N != b.Clock[i].N:
			return t.N < b.Clock[i].N
		}
	}
	return len(a.Clock) < len(b.Clock)
}

// isRegister computes the definition of the elements of a register.
func isRegister(list []api.Entry) bool {
	for _, e := range list {
		if !isVector(e.Clock) || e.Name != "a" && e.Name != "b" {
			return false
		}
	}
	for i, e := range list {
		for k, f := range list {
			if isBelow(e.Clock, f.Clock) || i < k && !precedes(e, f) {
				return false
			}
		}
	}
	return true
}

// registers returns lists of entries, some of them elements of a register.
func registers() [][]api.Entry {
	var pool, good []api.Entry
	for _, c := range clocks() {
		for _, s := range []string{"a", "b", "B"} {
			pool = append(pool, api.Entry{Clock: c, Name: s})
			if isVector(c) && s != "B" {
				good = append(good, api.Entry{Clock: c, Name: s})
			}
		}
	}
	return append(lists(pool, 2), lists(good, 4)...)
}
