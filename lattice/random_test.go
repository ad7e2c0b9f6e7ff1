package lattice

import (
	"math"
	"math/rand"
	"reflect"
	"slices"
	"testing"

	"plexus/api"
	"plexus/copies"
	"plexus/names"
)

// manyLattices calls check with random valid descriptions.
func manyLattices(t *testing.T, count int, check func(l api.Lattice)) {
	t.Helper()
	source := rand.New(rand.NewSource(1))
	for range count {
		l := randomLattice(source, 1+source.Intn(4))
		if e := Check(l); e != api.OK {
			t.Fatalf("%v: %d", l, e)
		}
		check(l)
	}
}

// randomLattice returns a valid description with at most this depth.
func randomLattice(source *rand.Rand, depth int) api.Lattice {
	kinds := []int{api.Flag, api.Max, api.Min, api.Set, api.Flat, api.Register, api.Closed}
	if depth > 1 {
		kinds = append(kinds, api.Map, api.Map, api.Product, api.Product, api.Lex, api.Lex)
	}
	switch kind := kinds[source.Intn(len(kinds))]; kind {
	case api.Max, api.Min:
		lo := int64(source.Intn(200) - 100)
		return bounds(kind, lo, lo+int64(source.Intn(100)))
	case api.Set, api.Flat:
		return words(kind, randomNames(source)...)
	case api.Map:
		return mapOf(randomLattice(source, depth-1), randomNames(source)...)
	case api.Product:
		list := append(randomNames(source), "last")
		source.Shuffle(len(list), func(i, k int) { list[i], list[k] = list[k], list[i] })
		l := api.Lattice{Kind: kind, Names: list}
		for range list {
			l.Parts = append(l.Parts, randomLattice(source, depth-1))
		}
		return l
	case api.Lex:
		return lex(randomChain(source, depth-1), randomLattice(source, depth-1))
	case api.Closed:
		l := closed(append(randomNames(source), "z"))
		for range source.Intn(3) {
			at := source.Intn(len(l.Names))
			l.Rules = append(l.Rules, api.Rule{If: l.Names[at : at+1+source.Intn(len(l.Names)-at)], Then: l.Names[source.Intn(len(l.Names))]})
		}
		return l
	default:
		return api.Lattice{Kind: kind}
	}
}

func randomChain(source *rand.Rand, depth int) api.Lattice {
	if depth > 1 && source.Intn(2) == 0 {
		return lex(randomChain(source, depth-1), randomChain(source, depth-1))
	}
	return []api.Lattice{flag, nine, bounds(api.Min, -3, 3)}[source.Intn(3)]
}

// randomNames returns up to three of four names, in ascending order.
func randomNames(source *rand.Rand) []string {
	var list []string
	for _, s := range []string{"a", "a-1", "b", "k"} {
		if source.Intn(3) == 0 {
			list = append(list, s)
		}
	}
	return list[:min(len(list), 3)]
}

// firstError computes the definition of valid nodes along the list of all nodes.
func firstError(l api.Lattice) api.Errno {
	for i, n := range preorder(l, 1) {
		if e := nodeError(i, n.depth, n.node); e != api.OK {
			return e
		}
	}
	return api.OK
}

// nodeError returns the first error of the node that a number of nodes precede.
func nodeError(before, depth int, l api.Lattice) api.Errno {
	k, count, parts := l.Kind, len(l.Names), len(l.Parts)
	is := func(kinds ...int) bool { return slices.Contains(kinds, k) }
	sameSet := len(names.Of(l.Names)) == count
	fields := !is(api.Max, api.Min) && (l.Lo != 0 || l.Hi != 0) || !is(api.Closed) && len(l.Rules) > 0 || is(api.Flag, api.Max, api.Min, api.Lex, api.Register) && count > 0
	lacks := is(api.Product) && (parts != count || count == 0) || is(api.Map) && parts != 1 || is(api.Lex) && parts != 2 || !is(api.Product, api.Map, api.Lex) && parts > 0 || is(api.Closed) && count == 0
	badRule := slices.ContainsFunc(l.Rules, func(r api.Rule) bool {
		return len(r.If) == 0 || !names.Sorted(r.If) || !names.Subset(r.If, l.Names) || !names.Has(l.Names, r.Then)
	})
	switch {
	case depth > 6 || before >= 64:
		return api.ErrLimit
	case k < api.Flag || k > api.Closed || fields || lacks:
		return api.ErrArgument
	case is(api.Product) && count > 8 || is(api.Closed) && count > 12 || count > 32 || len(l.Rules) > 32:
		return api.ErrLimit
	case slices.ContainsFunc(l.Names, func(s string) bool { return !names.Valid(s) }) || is(api.Product) && !sameSet || !is(api.Product) && !names.Sorted(l.Names) || badRule:
		return api.ErrName
	case l.Lo > l.Hi || min(l.Lo, l.Hi) < -1e9 || max(l.Lo, l.Hi) > 1e9:
		return api.ErrRange
	case is(api.Lex) && slices.ContainsFunc(preorder(l.Parts[0], 1), func(n placed) bool { return !leadsChain(n.node) }):
		return api.ErrType
	}
	return api.OK
}

// leadsChain reports whether a node can be one of the nodes of a chain.
func leadsChain(l api.Lattice) bool {
	return l.Kind == api.Flag && len(l.Parts) == 0 || (l.Kind == api.Max || l.Kind == api.Min) && len(l.Parts) == 0 || l.Kind == api.Lex && len(l.Parts) == 2
}

// spoil changes something in some node of a description.
func spoil(source *rand.Rand, l *api.Lattice) {
	for len(l.Parts) > 0 && source.Intn(3) > 0 {
		l = &l.Parts[source.Intn(len(l.Parts))]
	}
	switch source.Intn(12) {
	case 0:
		l.Kind = source.Intn(13) - 1
	case 1:
		l.Lo = []int64{1, -1e9, -1e9 - 1, 1e9 + 1, math.MinInt64}[source.Intn(5)]
	case 2:
		l.Hi = []int64{-1, 1, 1e9, 1e9 + 1, math.MaxInt64}[source.Intn(5)]
	case 3:
		l.Names = append(l.Names, []string{"", "a", "zz", "A"}[source.Intn(4)])
	case 4:
		l.Names = numbered("n", source.Intn(40))
	case 5:
		slices.Reverse(l.Names)
	case 6:
		l.Parts = append(l.Parts, randomLattice(source, 3))
	case 7:
		l.Parts = nil
	case 8:
		l.Rules = append(l.Rules, api.Rule{If: randomNames(source), Then: []string{"a", "k", "z", ""}[source.Intn(4)]})
	case 9:
		l.Rules = slices.Repeat(l.Rules, source.Intn(34))
	case 10:
		*l = lex(*l, flag)
	case 11:
		*l = mapOf(*l)
	}
}

// TestCheckAtRandom covers P9.1, compared with the definition.
func TestCheckAtRandom(t *testing.T) {
	source := rand.New(rand.NewSource(2))
	seen := map[api.Errno]int{}
	for range 30000 {
		l := copies.Lattice(randomLattice(source, 1+source.Intn(5)))
		for range source.Intn(4) {
			spoil(source, &l)
		}
		// A chain that is followed by fields it does not use is a chain all the same, which the list of its nodes does not show.
		if hasOddChain(l) {
			continue
		}
		want := firstError(l)
		if e := Check(l); e != want {
			t.Fatalf("%v: %d instead of %d", l, e, want)
		}
		seen[want]++
	}
	for _, e := range []api.Errno{api.OK, api.ErrLimit, api.ErrArgument, api.ErrName, api.ErrRange, api.ErrType} {
		if seen[e] < 100 {
			t.Errorf("only %d descriptions with the result %d", seen[e], e)
		}
	}
}

// hasOddChain reports whether a Flag, Max or Min has parts.
func hasOddChain(l api.Lattice) bool {
	return slices.ContainsFunc(preorder(l, 1), func(n placed) bool {
		return len(n.node.Parts) > 0 && (n.node.Kind == api.Flag || n.node.Kind == api.Max || n.node.Kind == api.Min)
	})
}

// TestInvalid covers P1: no function panics for a description that is not valid, and what is nested deeply ends.
func TestInvalid(t *testing.T) {
	deep, chain, broken := flag, flag, set
	for range 60000 {
		deep, chain, broken = product(deep, flag), lex(chain, flag), lex(broken, flag)
	}
	for _, c := range []struct {
		l    api.Lattice
		want api.Errno
	}{{deep, api.ErrLimit}, {chain, api.ErrLimit}, {broken, api.ErrType}, {nested(60000, wrong), api.ErrLimit}} {
		if e := Check(c.l); e != c.want {
			t.Errorf("a deep description: %d instead of %d", e, c.want)
		}
		use(c.l)
	}
	source := rand.New(rand.NewSource(4))
	for range 5000 {
		l := copies.Lattice(randomLattice(source, 1+source.Intn(4)))
		for range 1 + source.Intn(4) {
			spoil(source, &l)
		}
		use(l)
	}
	for kind := -1; kind < 13; kind++ {
		use(api.Lattice{Kind: kind})
		use(api.Lattice{Kind: kind, Names: []string{"a", "a"}, Parts: []api.Lattice{{Kind: kind}}, Rules: []api.Rule{{}}})
	}
}

// use calls all functions that take a description.
func use(l api.Lattice) {
	Chain(l)
	Finite(l)
	Distributive(l)
	Depth(l)
	Encode(l)
	Equal(l, l)
	for _, name := range append(slices.Clone(l.Names), "", "b") {
		Field(l, name)
	}
}

// TestSharesNothing covers the rules: arguments are not modified, and results share no memory with them or with each other.
func TestSharesNothing(t *testing.T) {
	inner := closed([]string{"a", "b"}, rule("a", "b"), rule("b", "a"))
	parts := []api.Lattice{mapOf(inner, "k"), inner, flag}
	l := api.Lattice{Kind: api.Product, Names: []string{"y", "x", "spare"}[:2], Parts: parts[:2]}
	before := copies.Lattice(l)
	if !reflect.DeepEqual(before, l) {
		t.Fatalf("the copy %v of %v", before, l)
	}
	code := Encode(l)
	kept := slices.Clone(code)
	decoded, _ := Decode(code)
	first, _ := Field(l, "y")
	second, _ := Field(l, "y")
	// The slices in decoded are told apart by writing another content into each.
	spread(&decoded, 0)
	spread(&first, 1000)
	if !Equal(second, before.Parts[0]) || !Equal(l, before) || !Equal(parts[2], flag) || !slices.Equal(code, kept) {
		t.Errorf("an argument or another result was modified: %v, %v", l, second)
	}
	Check(l)
	Chain(l)
	Finite(l)
	Distributive(l)
	Depth(l)
	if !Equal(l, before) || l.Names[:3][2] != "spare" {
		t.Errorf("an argument was modified: %v", l)
	}
	for i := range code {
		code[i] = 0xff
	}
	if again := Encode(l); !slices.Equal(again, kept) {
		t.Errorf("a result was modified: %q", again)
	}
	if numbers := len(distinct(&decoded)); numbers != 11 {
		t.Errorf("slices of a result share memory: %d of 11 names are different", numbers)
	}
}

// spread writes a name of its own into each place for names.
func spread(l *api.Lattice, from int) int {
	number := func(list []string) {
		for i := range list {
			list[i] = string(rune('a'+from/26)) + string(rune('a'+from%26))
			from++
		}
		_ = append(list, "appended")
	}
	number(l.Names)
	for i := range l.Rules {
		number(l.Rules[i].If)
	}
	for i := range l.Parts {
		from = spread(&l.Parts[i], from)
	}
	_ = append(l.Parts, wrong)
	return from
}

// distinct returns the names in a description, but for those of conclusions.
func distinct(l *api.Lattice) map[string]bool {
	seen := map[string]bool{}
	for _, n := range preorder(*l, 1) {
		list := n.node.Names
		for _, r := range n.node.Rules {
			list = append(slices.Clone(list), r.If...)
		}
		for _, s := range list {
			seen[s] = true
		}
	}
	return seen
}
