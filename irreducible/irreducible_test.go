package irreducible_test

import (
	"reflect"
	"slices"
	"strconv"
	"strings"
	"testing"

	"plexus/api"
	"plexus/irreducible"
	"plexus/sample"
	"plexus/value"
)

// Descriptions that the tests are built from.
var (
	flag     = api.Lattice{Kind: api.Flag}
	set      = api.Lattice{Kind: api.Set}
	flat     = api.Lattice{Kind: api.Flat}
	register = api.Lattice{Kind: api.Register}
	three    = sample.Bounds(api.Max, 0, 3)
	nine     = sample.Bounds(api.Max, 0, 9)
	down     = sample.Bounds(api.Min, 0, 9)
	single   = sample.Bounds(api.Max, 1, 1) // a trivial lattice
	ranked   = sample.Lex(three, set)
	note     = api.Lattice{Kind: api.Product, Names: []string{"c", "a"}, Parts: []api.Lattice{nine, set}}
	horn     = sample.Closed([]string{"a", "b", "c"}, api.Rule{If: []string{"a", "b"}, Then: "c"})
	cycle    = sample.Closed([]string{"a", "b", "c"}, api.Rule{If: []string{"a"}, Then: "b"}, api.Rule{If: []string{"b"}, Then: "a"}, api.Rule{If: []string{"c"}, Then: "a"})
	alike    = sample.Closed([]string{"a", "b", "c"}, api.Rule{If: []string{"c"}, Then: "a"}, api.Rule{If: []string{"c"}, Then: "b"}, api.Rule{If: []string{"a", "b"}, Then: "c"})
)

// Short names for what the tests are built with.
var (
	bounds, words, mapOf, lex, product                = sample.Bounds, sample.Words, sample.MapOf, sample.Lex, sample.Product
	number, named, parts, atom, keyed, entry, written = sample.Number, sample.Named, sample.Parts, sample.Atom, sample.Keyed, sample.Entry, sample.Written
)

// pair is an element of a Lex of numbers and sets.
func pair(n int64, list ...string) api.Value { return parts(number(n), named(list...)) }

// TestIrreducible covers P12.1 for elements of each kind, the chapter's examples among them.
func TestIrreducible(t *testing.T) {
	for i, c := range []struct {
		l    api.Lattice
		v    api.Value
		want bool
	}{
		// The examples.
		{set, named("x"), true}, {set, named("x", "y"), false}, {set, named(), false},
		{ranked, pair(2), true}, {ranked, pair(2, "x"), true}, {ranked, pair(0), false}, {ranked, pair(2, "x", "y"), false},
		{flat, number(2), false}, {words(api.Flat, "a"), number(2), true}, {words(api.Flat, "a", "b"), number(2), false},
		// Further elements.
		{flag, number(0), false}, {flag, number(1), true}, {nine, number(0), false}, {nine, number(7), true}, {down, number(9), false}, {down, number(0), true}, {single, number(1), false},
		{flat, number(0), false}, {flat, atom("a"), true}, {words(api.Flat, "a"), atom("a"), true}, {words(api.Flat, "a"), number(0), false},
		{mapOf(nine), keyed(nil), false}, {mapOf(nine), keyed([]string{"a"}, number(5)), true}, {mapOf(nine), keyed([]string{"a", "b"}, number(5), number(1)), false}, {mapOf(set), keyed([]string{"a"}, named("x")), true}, {mapOf(set), keyed([]string{"a"}, named("x", "y")), false},
		{note, pair(0), false}, {note, pair(3), true}, {note, pair(0, "x"), true}, {note, pair(3, "x"), false}, {note, pair(0, "x", "y"), false}, {product(flag, flag, flag), parts(number(0), number(1), number(0)), true}, {product(flag, flag, flag), parts(number(1), number(0), number(1)), false}, {product(single, single), parts(number(1), number(1)), false}, {product(single, down), parts(number(1), number(8)), true},
		{ranked, pair(0, "x"), true}, {ranked, pair(0, "x", "y"), false}, {lex(three, flat), parts(number(2), number(2)), false}, {lex(three, words(api.Flat, "a")), parts(number(2), number(2)), true}, {lex(lex(flag, flag), flag), parts(parts(number(0), number(1)), number(0)), true}, {lex(single, set), parts(number(1), named()), false}, {lex(three, single), parts(number(1), number(1)), true},
		{register, written(), false}, {register, written(entry("x", 1, 1)), true}, {register, written(entry("x", 1, 5, 2, 7)), true}, {register, written(entry("x", 1, 1), entry("y", 1, 1)), false},
		{horn, named(), false}, {horn, named("a"), true}, {horn, named("a", "c"), false}, {horn, named("a", "b", "c"), false}, {cycle, named("a", "b"), true}, {cycle, named("a", "b", "c"), true}, {cycle, named(), false}, {product(flag, cycle), parts(number(0), named("a", "b")), true}, {mapOf(horn), keyed([]string{"k"}, named("a", "c")), false},
		// One name has the closure of two others together.
		{alike, named("a", "b", "c"), false}, {alike, named("a"), true}, {alike, named("b"), true},
	} {
		if is, e := irreducible.Irreducible(c.l, c.v); e != api.OK || is != c.want {
			t.Errorf("case %d: Irreducible(%v, %v): %t, %d", i, c.l, c.v, is, e)
		}
	}
}

// TestIrredundant covers P12.1 for ordinary lists.
func TestIrredundant(t *testing.T) {
	x, y, xy := named("x"), named("y"), named("x", "y")
	for i, c := range []struct {
		l    api.Lattice
		list []api.Value
		want bool
	}{
		{set, nil, true}, {set, []api.Value{x}, true}, {set, []api.Value{named()}, false}, {set, []api.Value{x, named()}, false}, {set, []api.Value{x, x}, false}, {set, []api.Value{x, y}, true}, {set, []api.Value{x, xy}, false}, {set, []api.Value{xy, y}, false}, {set, []api.Value{named("x", "y"), named("y", "z"), named("x", "z")}, false}, {set, []api.Value{named("x", "y"), named("y", "z")}, true}, {set, []api.Value{x, y, named("z"), named("w")}, true}, {set, []api.Value{x, y, named("z"), named("w"), y}, false},
		{nine, []api.Value{number(3)}, true}, {nine, []api.Value{number(0)}, false}, {nine, []api.Value{number(3), number(5)}, false}, {down, []api.Value{number(9)}, false}, {down, []api.Value{number(0)}, true}, {single, []api.Value{number(1)}, false}, {single, nil, true},
		{flat, []api.Value{atom("a"), atom("b")}, true}, {flat, []api.Value{atom("a"), atom("b"), atom("c")}, false}, {flat, []api.Value{number(2)}, true}, {horn, []api.Value{named("a"), named("b")}, true}, {horn, []api.Value{named("a"), named("b"), named("c")}, false},
		{ranked, []api.Value{pair(2, "x"), pair(2, "y")}, true}, {ranked, []api.Value{pair(2, "x"), pair(1, "y")}, false}, {register, []api.Value{written(entry("x", 1, 1)), written(entry("y", 1, 1))}, true}, {register, []api.Value{written(entry("x", 1, 1)), written(entry("y", 1, 2))}, false},
	} {
		if is, e := irreducible.Irredundant(c.l, c.list); e != api.OK || is != c.want {
			t.Errorf("case %d: Irredundant(%v): %t, %d", i, c.list, is, e)
		}
	}
}

// TestDecompose covers P12.2 for elements of each kind, the chapter's examples among them; the values are in their order, which is not always that of their texts.
func TestDecompose(t *testing.T) {
	for i, c := range []struct {
		l    api.Lattice
		v    api.Value
		want string
	}{
		// The examples.
		{set, named("x", "y"), "{x} {y}"}, {ranked, pair(2, "x", "y"), "<2, {x}> <2, {y}>"}, {note, pair(3, "x"), "(c: 0, a: {x}) (c: 3, a: {})"},
		// Further elements.
		{set, named(), ""}, {flag, number(0), ""}, {flag, number(1), "true"}, {nine, number(0), ""}, {nine, number(5), "5"}, {down, number(9), ""}, {down, number(5), "5"}, {single, number(1), ""},
		{mapOf(nine), keyed(nil), ""}, {mapOf(nine), keyed([]string{"a", "b"}, number(5), number(1)), "{a: 5} {b: 1}"}, {mapOf(set), keyed([]string{"a", "b"}, named("x", "y"), named("x")), "{a: {x}} {a: {y}} {b: {x}}"},
		{note, pair(0), ""}, {note, pair(0, "x", "y"), "(c: 0, a: {x}) (c: 0, a: {y})"}, {product(nine, nine, down), parts(number(1), number(2), number(3)), "(z: 0, y: 0, x: 3) (z: 0, y: 2, x: 9) (z: 1, y: 0, x: 9)"}, {product(single, single), parts(number(1), number(1)), ""},
		{ranked, pair(0), ""}, {ranked, pair(2), "<2, {}>"}, {ranked, pair(0, "x"), "<0, {x}>"}, {lex(lex(flag, flag), set), parts(parts(number(1), number(0)), named("x", "y")), "<<true, false>, {x}> <<true, false>, {y}>"}, {lex(flag, ranked), parts(number(1), pair(0)), "<true, <0, {}>>"}, {lex(flag, ranked), parts(number(1), pair(2)), "<true, <2, {}>>"},
		{register, written(), ""}, {register, written(entry("a", 1, 1), entry("b", 2, 1)), "[a@1:1] [b@2:1]"}, {register, written(entry("a", 1, 1, 2, 2), entry("a", 1, 3)), "[a@1:1.2:2] [a@1:3]"}, {lex(flag, register), parts(number(1), written(entry("a", 1, 1), entry("b", 2, 1))), "<true, [a@1:1]> <true, [b@2:1]>"},
	} {
		list, e := irreducible.Decompose(c.l, c.v)
		var texts []string
		for _, v := range list {
			s, _ := value.Text(c.l, v)
			texts = append(texts, s)
		}
		if e != api.OK || strings.Join(texts, " ") != c.want {
			t.Errorf("case %d: Decompose(%v, %v): %v, %d", i, c.l, c.v, texts, e)
		}
	}
}

// TestDiff covers P12.3 for elements of each kind, the chapter's examples among them.
func TestDiff(t *testing.T) {
	ab, one, two := []string{"a", "b"}, entry("x", 1, 1), entry("y", 2, 1)
	for i, c := range []struct {
		l    api.Lattice
		a, b api.Value
		want string
	}{
		// The examples.
		{set, named("x", "y"), named("y", "z"), "{x}"}, {ranked, pair(2, "x"), pair(1, "x"), "<2, {x}>"}, {ranked, pair(2, "x", "y"), pair(2, "y"), "<2, {x}>"}, {ranked, pair(1, "x"), pair(2), "<0, {}>"},
		// Further elements.
		{set, named("x"), named("x", "y"), "{}"}, {flag, number(1), number(0), "true"}, {flag, number(1), number(1), "false"}, {nine, number(5), number(3), "5"}, {nine, number(3), number(5), "0"}, {nine, number(3), number(3), "0"}, {down, number(5), number(3), "9"}, {down, number(3), number(5), "3"}, {bounds(api.Max, 2, 5), number(3), number(4), "2"},
		{flat, atom("a"), atom("b"), "a"}, {flat, atom("a"), atom("a"), "?"}, {flat, atom("a"), number(2), "?"}, {flat, number(2), atom("a"), "!"}, {flat, number(0), atom("a"), "?"}, {horn, named("a", "c"), named("c"), "{a,c}"}, {horn, named("c"), named("a", "c"), "{}"}, {horn, named("a"), named("b"), "{a}"},
		{mapOf(nine), keyed(ab, number(5), number(3)), keyed([]string{"b"}, number(2)), "{a: 5, b: 3}"}, {mapOf(nine), keyed(ab, number(5), number(3)), keyed([]string{"b"}, number(3)), "{a: 5}"}, {mapOf(nine), keyed(ab, number(5), number(3)), keyed([]string{"a", "b", "c"}, number(5), number(3), number(1)), "{}"}, {mapOf(set), keyed(ab, named("x", "y"), named("x")), keyed(ab, named("y"), named("z")), "{a: {x}, b: {x}}"}, {mapOf(flat), keyed(ab, number(2), atom("x")), keyed(ab, atom("x"), atom("x")), "{a: !}"}, {mapOf(horn), keyed(ab, named("a", "c"), named("c")), keyed(ab, named("c"), named("a", "c")), "{a: {a,c}}"}, {mapOf(down), keyed([]string{"a"}, number(3)), keyed(nil), "{a: 3}"},
		{note, pair(3, "x", "y"), pair(3, "y"), "(c: 0, a: {x})"}, {note, pair(3, "y"), pair(1, "y"), "(c: 3, a: {})"}, {note, pair(3, "y"), pair(4, "y"), "(c: 0, a: {})"}, {product(flat, down), parts(number(2), number(2)), parts(atom("a"), number(2)), "(z: !, y: 9)"}, {product(horn, flag), parts(named("a", "c"), number(1)), parts(named("c"), number(1)), "(z: {a,c}, y: false)"},
		{ranked, pair(2, "x"), pair(2, "x", "y"), "<0, {}>"}, {ranked, pair(2), pair(2), "<0, {}>"}, {ranked, pair(3), pair(2, "x"), "<3, {}>"}, {lex(flag, flat), parts(number(1), number(2)), parts(number(1), atom("a")), "<true, !>"}, {lex(flag, horn), parts(number(1), named("a")), parts(number(1), named("c")), "<true, {a}>"}, {lex(lex(flag, nine), set), parts(parts(number(1), number(5)), named("x")), parts(parts(number(1), number(4)), named("x")), "<<true, 5>, {x}>"}, {lex(flag, ranked), parts(number(1), pair(2, "x")), parts(number(1), pair(2)), "<true, <2, {x}>>"}, {lex(down, set), parts(number(4), named("x", "y")), parts(number(4), named("x")), "<4, {y}>"},
		{register, written(one, two), written(one), "[y@2:1]"}, {register, written(one, two), written(entry("z", 1, 2)), "[y@2:1]"}, {register, written(one), written(entry("y", 1, 1)), "[x@1:1]"}, {register, written(one, two), written(entry("a", 1, 1, 2, 1)), "[]"}, {register, written(entry("a", 1, 2)), written(one), "[a@1:2]"}, {register, written(one, two), written(), "[x@1:1 | y@2:1]"}, {lex(flag, register), parts(number(1), written(one, two)), parts(number(1), written(two)), "<true, [x@1:1]>"},
	} {
		v, e := irreducible.Diff(c.l, c.a, c.b)
		if s, _ := value.Text(c.l, v); e != api.OK || s != c.want {
			t.Errorf("case %d: Diff(%v, %v) in %v: %v, %d", i, c.a, c.b, c.l, s, e)
		}
	}
}

// TestRank covers P12.5 for elements of each kind, the chapter's examples among them, and the limit.
func TestRank(t *testing.T) {
	wide, million := bounds(api.Max, -1e9, 1e9), bounds(api.Max, 0, 999999)
	large := lex(wide, lex(wide, wide))
	square := lex(bounds(api.Max, 1, 1<<20), bounds(api.Max, 1, 1<<20))
	flags := mapOf(mapOf(mapOf(mapOf(flag, many(32)...), many(32)...), many(32)...), many(32)...)
	for i, c := range []struct {
		l    api.Lattice
		v    api.Value
		want int64
		e    api.Errno
	}{
		// The examples.
		{set, named("x", "y"), 2, api.OK}, {note, pair(3, "x"), 4, api.OK}, {lex(three, flag), parts(number(2), number(0)), 4, api.OK},
		// Further elements.
		{flag, number(0), 0, api.OK}, {flag, number(1), 1, api.OK}, {nine, number(0), 0, api.OK}, {nine, number(9), 9, api.OK}, {down, number(9), 0, api.OK}, {down, number(2), 7, api.OK}, {wide, number(1e9), 2e9, api.OK}, {bounds(api.Min, -1e9, 1e9), number(-1e9), 2e9, api.OK}, {set, named(), 0, api.OK}, {single, number(1), 0, api.OK},
		{mapOf(nine), keyed([]string{"a", "b"}, number(5), number(1)), 6, api.OK}, {mapOf(set), keyed([]string{"a", "b"}, named("x", "y"), named("x")), 3, api.OK}, {mapOf(nine), keyed(nil), 0, api.OK}, {product(nine, down, flag), parts(number(2), number(6), number(1)), 6, api.OK}, {mapOf(lex(flag, flag)), keyed([]string{"a", "b"}, parts(number(1), number(0)), parts(number(1), number(1))), 5, api.OK},
		{lex(three, flag), parts(number(0), number(0)), 0, api.OK}, {lex(three, flag), parts(number(0), number(1)), 1, api.OK}, {lex(three, flag), parts(number(3), number(1)), 7, api.OK}, {lex(three, single), parts(number(2), number(1)), 2, api.OK}, {lex(flag, words(api.Set, "a", "b")), parts(number(1), named("b")), 4, api.OK}, {lex(flag, mapOf(three, "a", "b")), parts(number(1), keyed([]string{"a"}, number(2))), 9, api.OK}, {lex(lex(flag, three), flag), parts(parts(number(1), number(1)), number(0)), 10, api.OK}, {lex(flag, lex(three, flag)), parts(number(1), parts(number(1), number(1))), 11, api.OK}, {lex(flag, product(down, words(api.Set, "a"))), parts(number(1), parts(number(9), named())), 11, api.OK}, {lex(flag, flags), parts(number(1), keyed(nil)), 1<<20 + 1, api.OK},
		// Ranks about the limit, and far above it.
		{lex(wide, million), parts(number(0), number(0)), 1e15, api.OK}, {lex(wide, million), parts(number(0), number(1)), 0, api.ErrRange}, {lex(wide, million), parts(number(-1), number(999999)), 1e15 - 1, api.OK}, {lex(wide, million), parts(number(1), number(0)), 0, api.ErrRange}, {product(lex(wide, million), flag), parts(parts(number(0), number(0)), number(1)), 0, api.ErrRange}, {product(flag, lex(wide, million)), parts(number(1), parts(number(-1), number(999999))), 1e15, api.OK},
		{large, parts(number(-1e9), parts(number(-1e9), number(1e9))), 2e9, api.OK}, {large, parts(number(-1e9), parts(number(1e9), number(1e9))), 0, api.ErrRange}, {large, parts(number(1e9), parts(number(1e9), number(1e9))), 0, api.ErrRange}, {large, parts(number(1e9), parts(number(-1e9), number(-1e9))), 0, api.ErrRange}, {large, parts(number(-999999999), parts(number(-1e9), number(-1e9))), 0, api.ErrRange}, {lex(large, large), parts(parts(number(1), parts(number(1), number(1))), parts(number(1), parts(number(1), number(1)))), 0, api.ErrRange}, {mapOf(lex(wide, million)), keyed(many(20), slices.Repeat([]api.Value{parts(number(0), number(0))}, 20)...), 0, api.ErrRange},
		// The number of pairs is a multiple of 2^64.
		{lex(bounds(api.Max, 0, 1<<24), square), parts(number(1<<24), parts(number(1), number(1))), 0, api.ErrRange}, {lex(bounds(api.Max, 0, 1<<24), square), parts(number(1<<9), parts(number(1), number(5))), 1<<49 + 4, api.OK},
		// Lattices without ranks.
		{flat, atom("a"), 0, api.ErrState}, {words(api.Flat, "a"), number(0), 0, api.ErrState}, {horn, named("a"), 0, api.ErrState}, {register, written(), 0, api.ErrState}, {ranked, pair(2), 0, api.ErrState}, {ranked, pair(0), 0, api.ErrState}, {mapOf(register), keyed(nil), 0, api.ErrState}, {product(flag, flat), parts(number(0), number(0)), 0, api.ErrState}, {mapOf(product(flag, horn)), keyed(nil), 0, api.ErrState}, {lex(flag, mapOf(flag)), parts(number(0), keyed(nil)), 0, api.ErrState}, {lex(flag, product(flag, set)), parts(number(0), parts(number(0), named())), 0, api.ErrState}, {product(flag, mapOf(lex(flag, set))), parts(number(0), keyed(nil)), 0, api.ErrState}, {lex(flag, lex(flag, set)), parts(number(0), parts(number(0), named())), 0, api.ErrState},
	} {
		if n, e := irreducible.Rank(c.l, c.v); e != c.e || n != c.want {
			t.Errorf("case %d: Rank(%v, %v): %d, %d", i, c.l, c.v, n, e)
		}
	}
}

// many returns n names in ascending order, for n up to 100.
func many(n int) []string {
	var list []string
	for i := range n {
		list = append(list, "n"+strconv.Itoa(i/10)+strconv.Itoa(i%10))
	}
	return list
}

// TestErrors covers the errors: the description comes first, then the values, then the state.
func TestErrors(t *testing.T) {
	check := func(l api.Lattice, a, b api.Value, want api.Errno) {
		t.Helper()
		list := []api.Value{a, b}
		is, e1 := irreducible.Irreducible(l, a)
		are, e2 := irreducible.Irredundant(l, list)
		decomposition, e3 := irreducible.Decompose(l, a)
		n, e4 := irreducible.Rank(l, a)
		d, e5 := irreducible.Diff(l, a, b)
		swapped, e6 := irreducible.Diff(l, b, a)
		if e1 != want || e2 != want || e3 != want || e4 != want || e5 != want || e6 != want {
			t.Errorf("%v with %v, %v: %d, %d, %d, %d, %d, %d", l, a, b, e1, e2, e3, e4, e5, e6)
		}
		if is || are || len(decomposition) > 0 || n != 0 || !reflect.DeepEqual(d, api.Value{}) || !reflect.DeepEqual(swapped, api.Value{}) {
			t.Errorf("%v with %v, %v: results with an error", l, a, b)
		}
	}
	strangers := []api.Value{number(-1), number(11), named("A"), named("b", "a"), parts(number(1)), parts(number(1), number(1), number(1)), keyed([]string{"k"}, number(0)), written(api.Entry{}), written(entry("a", 1, 1), entry("b", 1, 2)), {N: 1, Names: []string{"a", "b"}}}
	for _, l := range sample.Invalid() {
		for _, v := range append([]api.Value{{}, number(1), number(3), named("a"), parts(number(0), number(0))}, strangers...) {
			check(l, v, v, api.ErrArgument)
		}
		if _, e := irreducible.Irredundant(l, nil); e != api.ErrArgument {
			t.Errorf("Irredundant of no values in %v: %d", l, e)
		}
	}
	for _, l := range []api.Lattice{flag, nine, set, flat, register, horn, mapOf(nine), mapOf(flat), product(nine), product(flag, register), ranked, lex(flag, horn)} {
		least, _ := value.Bottom(l)
		for _, v := range strangers {
			if !value.Valid(l, v) {
				check(l, v, least, api.ErrType)
			}
		}
		// The value that is no element can be the last of a list.
		if _, e := irreducible.Irredundant(l, []api.Value{least, least, strangers[0]}); e != api.ErrType {
			t.Errorf("Irredundant in %v: %d", l, e)
		}
	}
	for _, l := range []api.Lattice{flat, words(api.Flat, "a"), horn, mapOf(flat), product(flag, mapOf(horn)), lex(flag, flat)} {
		least, _ := value.Bottom(l)
		if list, e := irreducible.Decompose(l, least); e != api.ErrState || len(list) > 0 {
			t.Errorf("Decompose in %v: %v, %d", l, list, e)
		}
	}
	// Example 5: both tops of a Flat, with an irreducible one among them.
	for _, l := range []api.Lattice{flat, words(api.Flat, "a")} {
		if list, e := irreducible.Decompose(l, number(2)); e != api.ErrState || len(list) > 0 {
			t.Errorf("Decompose in %v: %v, %d", l, list, e)
		}
	}
}

// TestSharesNothing covers the rules: arguments are not modified, results share no memory with them or with each other, and nil and empty slices are equivalent.
func TestSharesNothing(t *testing.T) {
	for _, table := range sample.NewTables(append(sample.Finite(), sample.Nested()...)) {
		l, n := table.Lattice, len(table.All)
		for i := range n {
			k := (i*7 + 3) % n
			a, b := sample.Clone(table.All[i]), sample.Clone(table.All[k])
			d, _ := irreducible.Diff(l, a, b)
			whole, _ := irreducible.Diff(l, a, table.All[table.Upper()])
			list, _ := irreducible.Decompose(l, a)
			irreducible.Irreducible(l, a)
			irreducible.Irredundant(l, []api.Value{a, b})
			irreducible.Rank(l, a)
			if !sample.Same(a, table.All[i]) || !sample.Same(b, table.All[k]) {
				t.Fatalf("an argument was modified: %v, %v", table.All[i], table.All[k])
			}
			kept := sample.Clone(d)
			if !sample.Overwrite(append([]api.Value{d, whole, a, b}, list...)) {
				t.Fatalf("%v: memory of %v and %v is shared", l, table.All[i], table.All[k])
			}
			if again, _ := irreducible.Diff(l, table.All[i], table.All[k]); !sample.Same(again, kept) {
				t.Fatalf("a result was modified: %v", again)
			}
		}
	}
	list := []api.Value{named("b"), named("a")}
	if is, _ := irreducible.Irredundant(set, list); !is || list[0].Names[0] != "b" || list[1].Names[0] != "a" {
		t.Errorf("a list was modified: %v", list)
	}
	empty := api.Value{Names: []string{}, Parts: []api.Value{}, Entries: []api.Entry{}}
	for _, l := range []api.Lattice{flag, set, register, mapOf(nine)} {
		l.Names, l.Rules = []string{}, []api.Rule{}
		is, e1 := irreducible.Irreducible(l, empty)
		list, e2 := irreducible.Decompose(l, empty)
		d, e3 := irreducible.Diff(l, empty, api.Value{})
		if is || len(list) > 0 || !value.Equal(d, empty) || e1 != api.OK || e2 != api.OK || e3 != api.OK {
			t.Errorf("empty slices and nil are not the same in %v: %t, %v, %v", l, is, list, d)
		}
	}
}

// TestLarge covers P1: what is nested deeply or long ends.
func TestLarge(t *testing.T) {
	deep := number(1)
	for range 60000 {
		deep = keyed([]string{"k"}, deep)
	}
	if _, e := irreducible.Irreducible(mapOf(mapOf(flag)), deep); e != api.ErrType {
		t.Errorf("a deep value: %d", e)
	}
	const count = 3000
	var keys []string
	var values, singles []api.Value
	for i := range count {
		keys = append(keys, "x"+strconv.Itoa(count+i))
		values = append(values, named("a", "b"))
		singles = append(singles, named(keys[i]))
	}
	table := mapOf(set)
	list, e := irreducible.Decompose(table, keyed(keys, values...))
	n, e2 := irreducible.Rank(table, keyed(keys, values...))
	if e != api.OK || e2 != api.OK || len(list) != 2*count || n != 2*count {
		t.Errorf("a large map: %d values, %d, the rank %d, %d", len(list), e, n, e2)
	}
	d, e := irreducible.Diff(table, keyed(keys, values...), keyed(keys[:count-1], values[:count-1]...))
	if e != api.OK || len(d.Names) != 1 || d.Names[0] != keys[count-1] {
		t.Errorf("the difference of large maps: %d keys, %d", len(d.Names), e)
	}
	if is, e := irreducible.Irredundant(set, singles); !is || e != api.OK {
		t.Errorf("many sets: %t, %d", is, e)
	}
	if is, e := irreducible.Irredundant(set, append(singles, singles[7])); is || e != api.OK {
		t.Errorf("many sets, two of them equal: %t, %d", is, e)
	}
	// The top element of the second part would have more than 30 million keys.
	names := many(32)
	inner := mapOf(mapOf(mapOf(mapOf(bounds(api.Max, 0, 1e9), names...), names...), names...), names...)
	if n, e := irreducible.Rank(lex(flag, inner), parts(number(1), keyed(nil))); e != api.ErrRange || n != 0 {
		t.Errorf("a rank in a large lattice: %d, %d", n, e)
	}
}
