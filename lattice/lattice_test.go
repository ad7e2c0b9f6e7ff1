package lattice

import (
	"bytes"
	"math"
	"math/rand"
	"reflect"
	"slices"
	"strconv"
	"testing"

	"plexus/api"
	"plexus/copies"
	"plexus/sample"
)

// Descriptions that the tests are built from.
var (
	flag     = api.Lattice{Kind: api.Flag}
	nine     = api.Lattice{Kind: api.Max, Hi: 9}
	set      = api.Lattice{Kind: api.Set}
	register = api.Lattice{Kind: api.Register}
	wrong    = api.Lattice{Kind: 11}
	low      = api.Lattice{Kind: api.Max, Lo: 3, Hi: 2}
)

// Short names for what the tests are built with.
var bounds, words, mapOf, lex, closed = sample.Bounds, sample.Words, sample.MapOf, sample.Lex, sample.Closed

// product has the fields f0, f1 and so on.
func product(parts ...api.Lattice) api.Lattice {
	return api.Lattice{Kind: api.Product, Names: numbered("f", len(parts)), Parts: parts}
}

// rule has the last name as its conclusion.
func rule(list ...string) api.Rule {
	last := len(list) - 1
	return api.Rule{If: list[:last], Then: list[last]}
}

// numbered returns n names in ascending order, for n up to 100.
func numbered(prefix string, n int) []string {
	var list []string
	for i := range n {
		list = append(list, prefix+strconv.Itoa(i/10)+strconv.Itoa(i%10))
	}
	return list
}

// nested returns n maps around a description.
func nested(n int, l api.Lattice) api.Lattice {
	for range n {
		l = mapOf(l)
	}
	return l
}

// placed is a node of a description, with its depth.
type placed struct {
	node  api.Lattice
	depth int
}

// preorder returns all nodes of a description.
func preorder(l api.Lattice, depth int) []placed {
	list := []placed{{l, depth}}
	for _, part := range l.Parts {
		list = append(list, preorder(part, depth+1)...)
	}
	return list
}

// TestCheck covers P9.1: ordinary descriptions, and each condition of a node.
func TestCheck(t *testing.T) {
	ab, abc := []string{"a", "b"}, []string{"a", "b", "c"}
	rulesOf := func(n int) []api.Rule { return slices.Repeat([]api.Rule{rule("a", "b")}, n) }
	for i, c := range []struct {
		l    api.Lattice
		want api.Errno
	}{
		// The examples.
		{nine, api.OK}, {bounds(api.Max, 3, 2), api.ErrRange}, {api.Lattice{Kind: api.Max, Hi: 9, Names: []string{"a"}}, api.ErrArgument},
		{lex(nine, set), api.OK}, {lex(set, nine), api.ErrType}, {api.Lattice{Kind: api.Product, Names: []string{"b", "a"}, Parts: []api.Lattice{flag, set}}, api.OK},
		{closed(ab, rule("a", "b")), api.OK}, {closed(ab, rule("a", "c")), api.ErrName},
		// Depth.
		{nested(5, flag), api.OK}, {nested(6, flag), api.ErrLimit}, {nested(5, lex(flag, flag)), api.ErrLimit}, {nested(4, lex(flag, flag)), api.OK}, {product(flag, nested(5, flag)), api.ErrLimit}, {nested(6, wrong), api.ErrLimit}, {nested(5, wrong), api.ErrArgument},
		// Kinds and numbers of parts.
		{api.Lattice{}, api.ErrArgument}, {wrong, api.ErrArgument}, {api.Lattice{Kind: -1}, api.ErrArgument}, {api.Lattice{Kind: math.MaxInt}, api.ErrArgument}, {api.Lattice{Kind: math.MinInt}, api.ErrArgument},
		{api.Lattice{Kind: api.Map}, api.ErrArgument}, {api.Lattice{Kind: api.Map, Parts: []api.Lattice{flag, flag}}, api.ErrArgument},
		{api.Lattice{Kind: api.Product}, api.ErrArgument}, {api.Lattice{Kind: api.Product, Parts: []api.Lattice{flag}}, api.ErrArgument}, {api.Lattice{Kind: api.Product, Names: ab, Parts: []api.Lattice{flag}}, api.ErrArgument}, {api.Lattice{Kind: api.Product, Names: ab, Parts: []api.Lattice{flag, flag, flag}}, api.ErrArgument}, {words(api.Product, "a"), api.ErrArgument},
		{api.Lattice{Kind: api.Lex}, api.ErrArgument}, {api.Lattice{Kind: api.Lex, Parts: []api.Lattice{flag}}, api.ErrArgument}, {api.Lattice{Kind: api.Lex, Parts: []api.Lattice{flag, flag, flag}}, api.ErrArgument},
		{closed(nil), api.ErrArgument}, {closed(nil, rule("a", "b")), api.ErrArgument},
		// Numbers of names and rules.
		{product(slices.Repeat([]api.Lattice{flag}, 8)...), api.OK}, {product(slices.Repeat([]api.Lattice{flag}, 9)...), api.ErrLimit},
		{closed(numbered("n", 12)), api.OK}, {closed(numbered("n", 13)), api.ErrLimit},
		{words(api.Set, numbered("n", 32)...), api.OK}, {words(api.Set, numbered("n", 33)...), api.ErrLimit}, {words(api.Flat, numbered("n", 32)...), api.OK}, {words(api.Flat, numbered("n", 33)...), api.ErrLimit}, {mapOf(flag, numbered("n", 32)...), api.OK}, {mapOf(flag, numbered("n", 33)...), api.ErrLimit},
		{closed(ab, rulesOf(32)...), api.OK}, {closed(ab, rulesOf(33)...), api.ErrLimit},
		// Names.
		{words(api.Set), api.OK}, {words(api.Set, "a"), api.OK}, {words(api.Set, "abcdefghijklmnop"), api.OK}, {words(api.Set, "abcdefghijklmnopq"), api.ErrName}, {words(api.Set, ""), api.ErrName}, {words(api.Set, "a", "B"), api.ErrName}, {words(api.Set, "9"), api.ErrName}, {words(api.Set, "a\xff"), api.ErrName},
		{words(api.Set, "b", "a"), api.ErrName}, {words(api.Set, "a", "a"), api.ErrName}, {words(api.Flat, "b", "a"), api.ErrName}, {words(api.Flat, "a", "b"), api.OK}, {mapOf(flag, "b", "a"), api.ErrName}, {mapOf(flag, "a", "a"), api.ErrName}, {closed([]string{"b", "a"}), api.ErrName}, {closed([]string{"a", "a"}), api.ErrName}, {closed([]string{"A"}), api.ErrName},
		{api.Lattice{Kind: api.Product, Names: []string{"b", "a", "b"}, Parts: []api.Lattice{flag, flag, flag}}, api.ErrName}, {api.Lattice{Kind: api.Product, Names: []string{"c", "b", "a"}, Parts: []api.Lattice{flag, flag, flag}}, api.OK}, {api.Lattice{Kind: api.Product, Names: []string{"-"}, Parts: []api.Lattice{flag}}, api.ErrName},
		// Rules.
		{closed(ab), api.OK}, {closed(abc, rule("a", "b", "c"), rule("c", "c"), rule("c", "c")), api.OK}, {closed(ab, rule("a")), api.ErrName}, {closed(abc, rule("b", "a", "c")), api.ErrName}, {closed(abc, rule("a", "a", "c")), api.ErrName},
		{closed(ab, rule("c", "a")), api.ErrName}, {closed(abc, rule("a", "d", "c")), api.ErrName}, {closed(abc, rule("a", "b"), rule("b", "d")), api.ErrName}, {closed(abc, rule("a", "b"), rule("0", "a", "c"), rule("b", "c")), api.ErrName}, {closed(ab, rule("a", "")), api.ErrName},
		// Bounds.
		{bounds(api.Max, 5, 5), api.OK}, {bounds(api.Min, -1e9, 1e9), api.OK}, {bounds(api.Max, -1e9, -1e9), api.OK}, {bounds(api.Max, 1e9, 1e9), api.OK}, {bounds(api.Max, 0, 1e9+1), api.ErrRange}, {bounds(api.Min, -1e9-1, 0), api.ErrRange}, {bounds(api.Max, 1e9+1, 1e9+1), api.ErrRange}, {bounds(api.Min, -1e9-1, -1e9-1), api.ErrRange},
		{bounds(api.Min, 1, 0), api.ErrRange}, {bounds(api.Max, math.MinInt64, math.MaxInt64), api.ErrRange}, {bounds(api.Max, math.MaxInt64, math.MinInt64), api.ErrRange},
		// First parts.
		{lex(flag, register), api.OK}, {lex(bounds(api.Min, 0, 1), set), api.OK}, {lex(lex(flag, nine), set), api.OK}, {lex(lex(flag, set), set), api.ErrType}, {lex(lex(lex(flag, flag), lex(nine, flag)), set), api.OK}, {lex(product(flag), flag), api.ErrType}, {lex(register, flag), api.ErrType}, {lex(mapOf(flag), flag), api.ErrType}, {lex(words(api.Flat, "a"), flag), api.ErrType}, {lex(closed([]string{"a"}), flag), api.ErrType}, {lex(wrong, flag), api.ErrType},
		// The other kinds.
		{flag, api.OK}, {register, api.OK}, {mapOf(register), api.OK},
	} {
		if e := Check(c.l); e != c.want {
			t.Errorf("case %d, %v: %d instead of %d", i, c.l, e, c.want)
		}
	}
}

// TestCheckUnusedFields covers P9.1: a field that a kind does not use is refused.
func TestCheckUnusedFields(t *testing.T) {
	for _, l := range []api.Lattice{flag, nine, bounds(api.Min, 1, 2), words(api.Set, "a"), mapOf(flag, "a"), product(flag), lex(flag, flag), words(api.Flat, "a"), register, closed([]string{"a"}, rule("a", "a"))} {
		if e := Check(l); e != api.OK {
			t.Errorf("%v: %d", l, e)
		}
		refuse := func(used []int, change func(l *api.Lattice)) {
			other := l
			change(&other)
			if e := Check(other); (e == api.ErrArgument) == slices.Contains(used, l.Kind) {
				t.Errorf("%v: %d", other, e)
			}
		}
		refuse([]int{api.Max, api.Min}, func(l *api.Lattice) { l.Lo-- })
		refuse([]int{api.Max, api.Min}, func(l *api.Lattice) { l.Hi++ })
		refuse([]int{api.Closed}, func(l *api.Lattice) { l.Rules = append(l.Rules, rule("a", "a")) })
		refuse(nil, func(l *api.Lattice) { l.Parts = append(slices.Clone(l.Parts), flag) })
		refuse([]int{api.Set, api.Map, api.Flat, api.Closed}, func(l *api.Lattice) { l.Names = append(slices.Clone(l.Names), "z") })
	}
}

// TestCheckOrder covers P9.1: of several conditions the first counts, and of several nodes the first in preorder.
func TestCheckOrder(t *testing.T) {
	many := slices.Repeat([]api.Lattice{flag}, 9)
	for i, c := range []struct {
		l    api.Lattice
		want api.Errno
	}{
		// Two conditions of one node.
		{nested(6, low), api.ErrLimit}, {api.Lattice{Kind: api.Max, Lo: 3, Hi: 2, Names: []string{"A"}}, api.ErrArgument}, {api.Lattice{Kind: api.Max, Lo: 3, Hi: 2, Names: numbered("n", 33)}, api.ErrArgument}, {api.Lattice{Kind: api.Product, Names: numbered("n", 9), Parts: many[:8]}, api.ErrArgument},
		{words(api.Set, slices.Repeat([]string{"A"}, 33)...), api.ErrLimit}, {words(api.Set, slices.Repeat([]string{"a"}, 32)...), api.ErrName}, {closed([]string{"a"}, slices.Repeat([]api.Rule{rule("a")}, 33)...), api.ErrLimit}, {closed(slices.Repeat([]string{"a"}, 13)), api.ErrLimit},
		{api.Lattice{Kind: api.Lex, Names: []string{"a"}, Parts: []api.Lattice{set, flag}}, api.ErrArgument}, {api.Lattice{Kind: api.Product, Names: slices.Repeat([]string{"a"}, 9), Parts: many}, api.ErrLimit},
		// Two nodes.
		{lex(wrong, low), api.ErrType}, {lex(words(api.Set, "A"), flag), api.ErrType}, {lex(low, words(api.Set, "A")), api.ErrRange}, {lex(api.Lattice{Kind: api.Flag, Lo: 1}, low), api.ErrArgument}, {lex(nested(9, flag), low), api.ErrType}, {lex(api.Lattice{Kind: api.Flag, Parts: []api.Lattice{set}}, low), api.ErrArgument}, {lex(lex(low, flag), set), api.ErrRange}, {lex(api.Lattice{Kind: api.Lex, Parts: []api.Lattice{flag}}, flag), api.ErrType},
		{product(low, wrong), api.ErrRange}, {product(wrong, low), api.ErrArgument}, {product(mapOf(low), lex(set, flag)), api.ErrRange}, {product(lex(set, flag), low), api.ErrType}, {product(flag, nested(5, low), wrong), api.ErrLimit}, {mapOf(product(many...), "A"), api.ErrName}, {mapOf(product(many...), "a"), api.ErrLimit},
		{product(flag, mapOf(words(api.Set, "B")), low), api.ErrName},
	} {
		if e := Check(c.l); e != c.want {
			t.Errorf("case %d, %v: %d instead of %d", i, c.l, e, c.want)
		}
	}
}

// TestCheckNodes covers P9.1: 64 nodes are allowed, and the one behind them is refused before all else.
func TestCheckNodes(t *testing.T) {
	wide := func(last ...api.Lattice) api.Lattice {
		eight := product(slices.Repeat([]api.Lattice{flag}, 8)...)
		six := slices.Repeat([]api.Lattice{eight}, 6)
		// The root, six times nine nodes, and one product precede the last ones.
		return product(append(six, product(last...))...)
	}
	for _, c := range []struct {
		last []api.Lattice
		want api.Errno
	}{
		{slices.Repeat([]api.Lattice{flag}, 8), api.OK}, {append(slices.Repeat([]api.Lattice{flag}, 7), mapOf(flag)), api.ErrLimit}, {append(slices.Repeat([]api.Lattice{flag}, 7), mapOf(wrong)), api.ErrLimit},
		{append(slices.Repeat([]api.Lattice{flag}, 7), wrong), api.ErrArgument}, {append(slices.Repeat([]api.Lattice{flag}, 6), mapOf(wrong), flag), api.ErrArgument}, {append(slices.Repeat([]api.Lattice{flag}, 6), mapOf(flag), wrong), api.ErrLimit},
	} {
		if e := Check(wide(c.last...)); e != c.want {
			t.Errorf("%v: %d instead of %d", c.last, e, c.want)
		}
	}
	if e := Check(product(wide(slices.Repeat([]api.Lattice{flag}, 8)...), low)); e != api.ErrLimit {
		t.Errorf("65 nodes and more: %d", e)
	}
}

// TestEqual covers P9.2: any difference in any field of any node, valid or not.
func TestEqual(t *testing.T) {
	list := []api.Lattice{
		{}, flag, wrong, {Kind: -1}, nine, bounds(api.Max, 1, 9), bounds(api.Min, 0, 9), bounds(api.Max, 9, 0), set, words(api.Set, "a"), words(api.Set, ""), words(api.Set, "a", "b"), words(api.Set, "b", "a"), words(api.Flat, "a"), mapOf(flag), mapOf(nine), mapOf(flag, "a"), mapOf(mapOf(flag)), mapOf(mapOf(nine)),
		{Kind: api.Map}, lex(flag, nine), lex(nine, flag), product(flag, nine), product(flag), closed([]string{"a"}), closed([]string{"a"}, rule("a", "a")), closed([]string{"a"}, rule("a", "b")), closed([]string{"a"}, rule("b", "a")), closed([]string{"a"}, rule("a")), closed([]string{"a"}, rule("a", "a"), rule("a", "a")), closed([]string{"a"}, rule("a", "a", "a")),
		{Rules: []api.Rule{{}}}, {Parts: []api.Lattice{{}}}, {Parts: []api.Lattice{{}, {}}}, {Lo: 1}, {Hi: 1}, {Names: []string{""}},
	}
	for i, a := range list {
		for k, b := range list {
			if Equal(a, b) != (i == k) || Equal(mapOf(a), mapOf(b)) != (i == k) {
				t.Errorf("Equal(%v, %v) is not %t", a, b, i == k)
			}
		}
		if !Equal(a, emptied(a)) || !Equal(emptied(a), a) || !Equal(a, copies.Lattice(a)) {
			t.Errorf("%v with empty slices instead of nil is not the same", a)
		}
	}
}

// emptied returns a copy of a description in which empty slices are not nil.
func emptied(l api.Lattice) api.Lattice {
	l.Names, l.Rules = append([]string{}, l.Names...), append([]api.Rule{}, l.Rules...)
	for i, r := range l.Rules {
		l.Rules[i].If = append([]string{}, r.If...)
	}
	parts := []api.Lattice{}
	for _, part := range l.Parts {
		parts = append(parts, emptied(part))
	}
	l.Parts = parts
	return l
}

// TestKinds covers P9.3: each kind, and what is built from it.
func TestKinds(t *testing.T) {
	for i, c := range []struct {
		l                           api.Lattice
		chain, finite, distributive bool
		depth                       int
	}{
		{flag, true, true, true, 1}, {nine, true, true, true, 1}, {bounds(api.Min, -2, -1), true, true, true, 1}, {register, false, false, true, 1}, {closed([]string{"a"}), false, true, false, 1},
		{set, false, false, true, 1}, {words(api.Set, "a"), false, true, true, 1}, {words(api.Flat), false, false, false, 1}, {words(api.Flat, "a"), false, true, false, 1},
		{mapOf(flag), false, false, true, 2}, {mapOf(flag, "a"), false, true, true, 2}, {mapOf(set, "a"), false, false, true, 2}, {mapOf(bounds(api.Max, 1, 1)), false, false, true, 2}, {mapOf(words(api.Flat, "a"), "a"), false, true, false, 2},
		{product(flag), false, true, true, 2}, {product(flag, set), false, false, true, 2}, {product(flag, mapOf(closed([]string{"a"}), "b"), nine), false, true, false, 3}, {product(mapOf(flag, "a"), flag), false, true, true, 3},
		{lex(nine, flag), true, true, true, 2}, {lex(nine, set), false, false, true, 2}, {lex(lex(flag, nine), flag), true, true, true, 3}, {lex(flag, lex(nine, flag)), true, true, true, 3}, {lex(flag, lex(nine, words(api.Set, "a"))), false, true, true, 3}, {lex(flag, closed([]string{"a"})), false, true, false, 2},
		{nested(5, flag), false, false, true, 6},
	} {
		if Check(c.l) != api.OK || Chain(c.l) != c.chain || Finite(c.l) != c.finite || Distributive(c.l) != c.distributive || Depth(c.l) != c.depth {
			t.Errorf("case %d, %v: %t, %t, %t, %d", i, c.l, Chain(c.l), Finite(c.l), Distributive(c.l), Depth(c.l))
		}
	}
}

// TestKindsAtRandom covers P9.3, compared with the list of all nodes.
func TestKindsAtRandom(t *testing.T) {
	manyLattices(t, 4000, func(l api.Lattice) {
		chain, finite, distributive, depth := true, true, true, 0
		for _, n := range preorder(l, 1) {
			k, named := n.node.Kind, len(n.node.Names) > 0
			chain = chain && (k == api.Flag || k == api.Max || k == api.Min || k == api.Lex)
			finite = finite && k != api.Register && (named || k != api.Set && k != api.Flat && k != api.Map)
			distributive = distributive && k != api.Flat && k != api.Closed
			depth = max(depth, n.depth)
		}
		if Chain(l) != chain || Finite(l) != finite || Distributive(l) != distributive || Depth(l) != depth {
			t.Fatalf("%v: %t, %t, %t, %d", l, Chain(l), Finite(l), Distributive(l), Depth(l))
		}
		if Chain(l) && !Distributive(l) {
			t.Fatalf("the chain %v is not distributive", l)
		}
	})
}

// TestField covers P9.4.
func TestField(t *testing.T) {
	l := api.Lattice{Kind: api.Product, Names: []string{"b", "a", "c"}, Parts: []api.Lattice{flag, set, nine}}
	for i, name := range l.Names {
		if part, ok := Field(l, name); !ok || !Equal(part, l.Parts[i]) {
			t.Errorf("Field of %s: %v, %t", name, part, ok)
		}
	}
	for _, name := range []string{"", "d", "A", "aa", "b\x00"} {
		if part, ok := Field(l, name); ok || !reflect.DeepEqual(part, api.Lattice{}) {
			t.Errorf("Field of %q: %v, %t", name, part, ok)
		}
	}
	for _, l := range []api.Lattice{flag, mapOf(flag, "a"), words(api.Set, "a"), words(api.Flat, "a"), closed([]string{"a"}), lex(flag, flag), mapOf(product(flag), "f00")} {
		for _, name := range []string{"a", "f00", ""} {
			if part, ok := Field(l, name); ok || !reflect.DeepEqual(part, api.Lattice{}) {
				t.Errorf("Field of %s in %v: %v, %t", name, l, part, ok)
			}
		}
	}
}

// TestEncode covers P9.5: an encoding of each kind, read and written.
func TestEncode(t *testing.T) {
	for _, c := range []struct {
		l    api.Lattice
		want string
	}{
		// The examples.
		{nine, "\x02\x00\x12"}, {api.Lattice{Kind: api.Product, Names: []string{"b", "a"}, Parts: []api.Lattice{flag, set}}, "\x06\x02\x01b\x01\x01a\x04\x00"},
		{flag, "\x01"}, {bounds(api.Max, -1, 64), "\x02\x01\x80\x01"}, {bounds(api.Min, -1e9, 1e9), "\x03\xff\xa7\xd6\xb9\x07\x80\xa8\xd6\xb9\x07"}, {bounds(api.Min, 0, 0), "\x03\x00\x00"}, {words(api.Set, "a", "bc"), "\x04\x02\x01a\x02bc"},
		{mapOf(flag), "\x05\x00\x01"}, {mapOf(nine, "k", "l"), "\x05\x02\x01k\x01l\x02\x00\x12"}, {lex(nine, set), "\x07\x02\x00\x12\x04\x00"}, {lex(lex(flag, flag), mapOf(flag)), "\x07\x07\x01\x01\x05\x00\x01"},
		{words(api.Flat), "\x08\x00"}, {words(api.Flat, "x"), "\x08\x01\x01x"}, {register, "\x09"}, {closed([]string{"a"}), "\x0a\x01\x01a\x00"}, {closed([]string{"a", "b", "c"}, rule("a", "b", "c"), rule("c", "a")), "\x0a\x03\x01a\x01b\x01c\x02\x02\x01a\x01b\x01c\x01\x01c\x01a"},
	} {
		if b := Encode(c.l); string(b) != c.want {
			t.Errorf("Encode(%v): %q", c.l, b)
		}
		if l, e := Decode([]byte(c.want)); e != api.OK || !Equal(l, c.l) {
			t.Errorf("Decode(%q): %v, %d", c.want, l, e)
		}
	}
}

// TestDecodeErrors covers P9.5: all bytes that are not the encoding of a valid description.
func TestDecodeErrors(t *testing.T) {
	list := []string{
		"", "\x00", "\x0b", "\x80\x01", "\x81\x00", "\xff\xff\xff\xff\xff\xff\xff\xff\xff\x01", "\x81\x80\x80\x80\x80\x80\x80\x80\x80\x01", "\x01\x00", "\x01\x01", "\x09\x09",
		"\x02", "\x02\x00", "\x02\x00\x12\x00", "\x02\x12\x00", "\x02\x00\x92\x00", "\x02\x00\x82\xa8\xd6\xb9\x07", "\x03\x81\xa8\xd6\xb9\x07\x00",
		"\x04", "\x04\x01", "\x04\x01\x01", "\x04\x01\x01A", "\x04\x01\x00", "\x04\x02\x01b\x01a", "\x04\x02\x01a\x01a", "\x04\x00\x00", "\x04\xff\xff\xff\xff\x07", "\x04\x80\x00", "\x04\x01\x81\x00a",
		"\x05\x00", "\x05\x00\x00", "\x05\x00\x01\x01", "\x05\x01\x01", "\x05\x02\x01l\x01k\x01", "\x06", "\x06\x00", "\x06\x01", "\x06\x01\x01a", "\x06\x02\x01a\x01\x01a\x01", "\x06\x01\x01A\x01", "\x06\x01\x01a\x0b", "\x06\x09\x01a\x01\x01b\x01\x01c\x01\x01d\x01\x01e\x01\x01f\x01\x01g\x01\x01h\x01\x01i\x01",
		"\x07", "\x07\x01", "\x07\x04\x00\x01", "\x07\x01\x01\x01", "\x08", "\x08\x01", "\x08\x02\x01y\x01x", "\x0a", "\x0a\x00\x00", "\x0a\x01\x01a", "\x0a\x01\x01a\x01", "\x0a\x01\x01a\x01\x00\x01a", "\x0a\x01\x01a\x01\x01\x01a", "\x0a\x01\x01a\x01\x01\x01a\x01b", "\x0a\x01\x01a\x01\x01\x01b\x01a", "\x0a\x01\x01a\x01\x02\x01a\x01a\x01a",
		"\x05\x00\x05\x00\x05\x00\x05\x00\x05\x00\x05\x00\x01",
	}
	for _, b := range append(list, string(bytes.Repeat([]byte("\x05\x00"), 1000000)), string(bytes.Repeat([]byte("\x07"), 1000000))) {
		if l, e := Decode([]byte(b)); e != api.ErrSyntax || !reflect.DeepEqual(l, api.Lattice{}) {
			t.Errorf("Decode(%.40q): %v, %d", b, l, e)
		}
	}
	rows := product(slices.Repeat([]api.Lattice{product(slices.Repeat([]api.Lattice{flag}, 8)...)}, 8)...)
	var raw bytes.Buffer
	raw.WriteString("\x06\x08")
	for _, name := range rows.Names {
		raw.WriteString("\x03" + name)
		raw.Write(Encode(rows.Parts[0]))
	}
	if l, e := Decode(raw.Bytes()); e != api.ErrSyntax || !reflect.DeepEqual(l, api.Lattice{}) {
		t.Errorf("Decode of 73 nodes: %d", e)
	}
	// More than 32 names are not taken for none, also if what follows could be read as a part.
	part := Encode(words(api.Set, "abcdefghijklmn", "bcdefghijklmnop"))
	if l, e := Decode(append([]byte{5, byte(len(part))}, part...)); len(part) != 33 || e != api.ErrSyntax || !reflect.DeepEqual(l, api.Lattice{}) {
		t.Errorf("Decode of %d names: %v, %d", len(part), l, e)
	}
}

// TestCodeAtLimits covers P9.5: descriptions with as much of everything as is allowed.
func TestCodeAtLimits(t *testing.T) {
	eight := product(slices.Repeat([]api.Lattice{flag}, 8)...)
	for _, l := range []api.Lattice{nested(5, flag), words(api.Set, numbered("n", 32)...), words(api.Flat, numbered("n", 32)...), mapOf(flag, numbered("n", 32)...), eight, product(slices.Repeat([]api.Lattice{eight}, 7)...), closed(numbered("n", 12), slices.Repeat([]api.Rule{rule(append(numbered("n", 12), "n00")...)}, 32)...)} {
		if got, e := Decode(Encode(l)); Check(l) != api.OK || e != api.OK || !Equal(got, l) {
			t.Errorf("Decode(Encode(%v)): %d", l, e)
		}
	}
}

// TestCode covers P9.5 and P9.6: descriptions are read back, and their encodings and those of others are no prefixes of each other.
func TestCode(t *testing.T) {
	found := map[string]api.Lattice{}
	source := rand.New(rand.NewSource(3))
	manyLattices(t, 3000, func(l api.Lattice) {
		b := Encode(l)
		if got, e := Decode(b); e != api.OK || !Equal(got, l) || Check(got) != api.OK {
			t.Fatalf("Decode(Encode(%v)): %v, %d", l, got, e)
		}
		if other, ok := found[string(b)]; ok && !Equal(other, l) {
			t.Fatalf("%v and %v have one encoding", l, other)
		}
		found[string(b)] = l
		for range 20 {
			c := slices.Clone(b)
			switch at := source.Intn(len(c)); source.Intn(4) {
			case 0:
				c[at] = byte(source.Intn(256))
			case 1:
				c[at] ^= 1 << source.Intn(8)
			case 2:
				c = c[:at]
			default:
				c = slices.Insert(c, at, byte(source.Intn(12)))
			}
			if got, e := Decode(c); e == api.OK && (Check(got) != api.OK || !bytes.Equal(Encode(got), c)) || e != api.OK && (e != api.ErrSyntax || !reflect.DeepEqual(got, api.Lattice{})) {
				t.Fatalf("Decode(%q): %v, %d", c, got, e)
			}
		}
	})
	for b := range found {
		for n := range len(b) {
			if l, ok := found[b[:n]]; ok {
				t.Fatalf("the encoding of %v is a prefix of that of %v", l, found[b])
			}
		}
	}
}

// TestShortCodes covers P9.5: of all short strings of some bytes, those that are accepted are encodings.
func TestShortCodes(t *testing.T) {
	const alphabet = "\x00\x01\x02\x03\x04\x05\x06\x07\x08\x09\x0aab\x80"
	accepted := 0
	codes := []string{""}
	for next := 0; next < len(codes); next++ {
		b := codes[next]
		if len(b) < 5 {
			for i := range len(alphabet) {
				codes = append(codes, b+alphabet[i:i+1])
			}
		}
		l, e := Decode([]byte(b))
		if e == api.OK {
			accepted++
		}
		if e == api.OK && (Check(l) != api.OK || string(Encode(l)) != b) || e != api.OK && e != api.ErrSyntax {
			t.Fatalf("Decode(%q): %v, %d", b, l, e)
		}
	}
	if accepted < 100 {
		t.Errorf("only %d strings are accepted", accepted)
	}
}

// TestParts covers P9.6: the parts of a valid description are valid.
func TestParts(t *testing.T) {
	manyLattices(t, 2000, func(l api.Lattice) {
		for _, n := range preorder(l, 1) {
			if e := Check(n.node); e != api.OK {
				t.Fatalf("the part %v of %v: %d", n.node, l, e)
			}
		}
	})
}
