package sample

import "plexus/api"

// Finite returns descriptions with few elements.
func Finite() []api.Lattice {
	ab, abc := []string{"a", "b"}, []string{"a", "b", "c"}
	flag, single := api.Lattice{Kind: api.Flag}, Bounds(api.Max, 1, 1)
	implied := Closed(ab, api.Rule{If: []string{"a"}, Then: "b"})
	return []api.Lattice{
		flag, Bounds(api.Max, -1, 2), Bounds(api.Min, -1, 2), single, Bounds(api.Min, 0, 0), Words(api.Set, "a"), Words(api.Set, ab...), Words(api.Flat, "a"), Words(api.Flat, ab...), Words(api.Flat, "b"),
		Closed(ab), implied, Closed(ab, api.Rule{If: []string{"b"}, Then: "a"}, api.Rule{If: []string{"a"}, Then: "b"}), Closed(abc, api.Rule{If: ab, Then: "c"}), Closed([]string{"b"}),
		MapOf(flag, "a"), MapOf(flag, ab...), MapOf(Bounds(api.Max, 1, 3), ab...), MapOf(Bounds(api.Min, 0, 1), "b"), MapOf(single, "a"), MapOf(Words(api.Set, ab...), "a"), MapOf(Words(api.Flat, "a"), ab...), MapOf(MapOf(flag, "a"), ab...), MapOf(Product(flag, single), "a"), MapOf(implied, "b"),
		Product(flag), Product(flag, Bounds(api.Max, 0, 2)), Product(Words(api.Set, ab...), flag), Product(single, single), Product(MapOf(single, "a"), Words(api.Flat, "a")), Product(Product(flag), flag),
		Lex(flag, flag), Lex(Bounds(api.Min, 1, 2), Words(api.Set, ab...)), Lex(Lex(flag, flag), flag), Lex(single, Words(api.Flat, "b")), Lex(single, single), Lex(flag, MapOf(flag, ab...)),
	}
}

// Nested returns more descriptions, of which Elements returns some or all of the elements.
func Nested() []api.Lattice {
	flag, set, flat, register := api.Lattice{Kind: api.Flag}, api.Lattice{Kind: api.Set}, api.Lattice{Kind: api.Flat}, api.Lattice{Kind: api.Register}
	three, least := Bounds(api.Max, 0, 2), Bounds(api.Min, -1, 0)
	abc := []string{"a", "b", "c"}
	arrow := Closed(abc, api.Rule{If: []string{"a"}, Then: "b"}, api.Rule{If: []string{"b", "c"}, Then: "a"})
	equal := Closed(abc, api.Rule{If: []string{"c"}, Then: "a"}, api.Rule{If: []string{"c"}, Then: "b"}, api.Rule{If: []string{"a", "b"}, Then: "c"})
	return []api.Lattice{
		set, flat, register, Words(api.Set, abc...), Words(api.Flat, abc...), Closed(abc), arrow, equal,
		MapOf(three), MapOf(set), MapOf(flat), MapOf(register, "a"), MapOf(arrow, "a", "b"), MapOf(Lex(flag, set), "a"), MapOf(Product(flag, least)),
		Product(three, set), Product(register, flag), Product(flat, arrow), Product(flag, least, three), Product(MapOf(flag), Lex(flag, flag)),
		Lex(three, set), Lex(flag, register), Lex(least, flat), Lex(flag, arrow), Lex(Lex(flag, least), Product(flag, set)), Lex(three, Lex(flag, MapOf(flag))), Lex(flag, MapOf(Lex(least, set), "a")),
	}
}

// Invalid returns descriptions that are not valid.
func Invalid() []api.Lattice {
	flag, set := api.Lattice{Kind: api.Flag}, api.Lattice{Kind: api.Set}
	deep := flag
	for range 6 {
		deep = MapOf(deep)
	}
	return []api.Lattice{
		{}, {Kind: 11}, {Kind: -1}, {Kind: api.Flag, Lo: 1}, Bounds(api.Max, 3, 2), Words(api.Set, "b", "a"), Words(api.Flat, "A"), {Kind: api.Map}, {Kind: api.Product}, Lex(set, flag), {Kind: api.Lex, Parts: []api.Lattice{flag}}, {Kind: api.Closed},
		MapOf(Bounds(api.Min, 1, 0)), Product(flag, api.Lattice{}), {Kind: api.Product, Names: []string{"a", "b"}, Parts: []api.Lattice{flag}}, deep, Closed([]string{"a"}, api.Rule{If: []string{"a"}, Then: "b"}), {Kind: api.Register, Names: []string{"a"}}, Product(api.Lattice{Kind: api.Register}, api.Lattice{}),
	}
}

// Objects returns descriptions of objects for a Maker. Those in front have parts of all kinds.
func Objects() []api.Lattice {
	flag, set, flat, register := api.Lattice{Kind: api.Flag}, api.Lattice{Kind: api.Set}, api.Lattice{Kind: api.Flat}, api.Lattice{Kind: api.Register}
	closed := Closed([]string{"a", "b", "c"}, api.Rule{If: []string{"a", "b"}, Then: "c"})
	large := api.Lattice{Kind: api.Product, Names: []string{"c", "a", "s", "if", "p"}, Parts: []api.Lattice{Bounds(api.Max, 0, 9), MapOf(set), register, MapOf(Bounds(api.Min, -3, 3), "x", "y"), Lex(flag, Product(flat, closed, MapOf(MapOf(flag))))}}
	small := Product(MapOf(Lex(Bounds(api.Min, 0, 9), flat)), register, Bounds(api.Max, -1, 1), closed)
	list := []api.Lattice{large, large, large, small, MapOf(small, "k"), Lex(flag, small), MapOf(Lex(Lex(flag, Bounds(api.Max, 0, 5)), register)), Product(small, small, set)}
	return append(append(list, Finite()...), Nested()...)
}
