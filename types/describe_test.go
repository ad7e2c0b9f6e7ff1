package types_test

import (
	"math/rand"
	"slices"
	"strings"
	"testing"

	"plexus/api"
	"plexus/lattice"
	"plexus/parser"
	"plexus/sample"
	"plexus/types"
)

// known are some named descriptions.
func known() []api.Object {
	return []api.Object{{Name: "pairs", Lattice: sample.Lex(sample.Bounds(api.Max, 0, 3), sample.Words(api.Set))}, {Name: "l", Lattice: sample.Words(api.Flag)}, {Name: "set", Lattice: sample.Words(api.Register)}}
}

// TestLattices covers P18.1: the descriptions that trees denote.
func TestLattices(t *testing.T) {
	flag, set := api.Lattice{Kind: api.Flag}, api.Lattice{Kind: api.Set}
	ab := []string{"a", "b"}
	for source, want := range map[string]api.Lattice{
		"flag": flag, "register": {Kind: api.Register}, "set": set, "flat": {Kind: api.Flat}, "l": flag, "pairs": known()[0].Lattice, "max(-1, 5)": sample.Bounds(api.Max, -1, 5), "min(-1000000000, 1000000000)": sample.Bounds(api.Min, -1000000000, 1000000000),
		"set('b', 'a')": sample.Words(api.Set, ab...), "flat('b', 'a')": sample.Words(api.Flat, ab...), "flat('set')": sample.Words(api.Flat, "set"), "map('b', 'a') set": sample.MapOf(set, ab...), "map flag": sample.MapOf(flag), "map map('x') l": sample.MapOf(sample.MapOf(flag, "x")),
		"{b: set, a: flag}": {Kind: api.Product, Names: []string{"b", "a"}, Parts: []api.Lattice{set, flag}}, "{l: l, p: pairs}": {Kind: api.Product, Names: []string{"l", "p"}, Parts: []api.Lattice{flag, known()[0].Lattice}}, "lex(flag, set)": sample.Lex(flag, set), "lex(l, pairs)": sample.Lex(flag, known()[0].Lattice),
		"closed('b', 'a')": sample.Closed(ab), "closed('b', 'a'; 'b', 'a' => 'a'; 'a' => 'b')": sample.Closed(ab, api.Rule{If: ab, Then: "a"}, api.Rule{If: []string{"a"}, Then: "b"}), "closed('a'; 'a' => 'a'; 'a' => 'a')": sample.Closed([]string{"a"}, api.Rule{If: []string{"a"}, Then: "a"}, api.Rule{If: []string{"a"}, Then: "a"}),
	} {
		n, fault := parser.Lattice(source)
		if fault.Code != api.OK {
			t.Fatalf("%s: %v", source, fault)
		}
		before := text(n)
		if l, fault := types.Lattice(known(), n); fault != (api.Fault{}) || !lattice.Equal(l, want) || text(n) != before {
			t.Errorf("%s: %v, %v", source, l, fault)
		}
	}
	if l, fault := types.Lattice(known(), api.Node{Kind: api.NodeNamed, Text: "set", At: -1}); fault != (api.Fault{}) || l.Kind != api.Register {
		t.Errorf("a name that is a keyword: %v, %v", l, fault)
	}
}

// TestLatticeFaults covers P18.1 for the faults of lattices, which are where ! stands.
func TestLatticeFaults(t *testing.T) {
	deep, many := strings.Repeat("map ", 5), "{a: flag"
	for _, c := range "bcdefgh" {
		many += ", " + string(c) + ": flag"
	}
	many += "}"
	// It has 64 nodes.
	largest := strings.Replace(strings.ReplaceAll(many, "flag", many), ", h: "+many+"}", "}", 1)
	for code, sources := range map[api.Errno][]string{
		api.ErrName: {
			"!x", "map !x", "lex(!x, y)", "lex(l, !y)", "{a: flag, b: !x}", "{x: l, y: l, !x: l}", "{x: !z, x: l}", "{x: l, !x: y}", "{x: {x: l}, !x: y}", "{a: {x: l, !x: l}, a: l}", "{a: !x, b: {c: l, c: l}}",
			"set('a', 'b', !'a')", "set('a', !'a', 'a')", "flat('a', !'a')", "map('a', !'a') x", "map('a') set('a', !'a')", "map('a', 'b') !x", "closed('a', 'b', !'b')", "closed('a', !'a'; 'b', 'b' => 'c')", "closed('a'; 'b', !'b' => 'c')", "closed('a'; 'a' => 'a'; 'a', 'c', !'a' => 'c')", "lex(max(2, 1), !x)", "lex(set, !x)", "{a: max(2, 1), b: closed(), c: set('x', !'x')}",
			"!closed('a'; 'b' => 'a')", "!closed('a'; 'a' => 'b')", "!closed('a'; => 'a')", "!map closed('a'; 'a' => 'b')", "{a: !x, a: x}",
		},
		api.ErrType:     {"!lex(set, flag)", "!map lex(pairs, l)", "!{a: flag, b: lex(register, l)}"},
		api.ErrRange:    {"!max(2, 1)", "!min(0, 1000000001)", "!max(-1000000001, 0)", "!map min(1, 0)", "!lex(max(1, 0), set)", "!max(0, 1000000000000000)"},
		api.ErrArgument: {"!closed()", "!map closed(; => 'a')"},
		api.ErrLimit: {
			"!" + deep + "map flag", "!" + deep + "pairs", "!" + strings.Replace(many, "flag}", "flag, i: flag}", 1), "!" + strings.ReplaceAll(many, "flag", many), "!map " + largest, "!map " + strings.Replace(largest, "h: flag", "h: l", 1),
			"!set('" + strings.Join(strings.Split("abcdefghijklmnopqrstuvwxyz", ""), "', '") + "', 'aa', 'ab', 'ac', 'ad', 'ae', 'af', 'ag')", "!closed('a', 'b', 'c', 'd', 'e', 'f', 'g', 'h', 'i', 'j', 'k', 'l', 'm')", "!closed('a'" + strings.Repeat("; 'a' => 'a'", 33) + ")",
		},
	} {
		for _, source := range sources {
			at := strings.Index(source, "!")
			n, fault := parser.Lattice(strings.Replace(source, "!", "", 1))
			if fault.Code != api.OK {
				t.Fatalf("%s: %v", source, fault)
			}
			if l, fault := types.Lattice(known(), n); fault != (api.Fault{Code: code, At: at}) || text(l) != text(api.Lattice{}) {
				t.Errorf("%s: %v, %v; not %d", source, l, fault, code)
			}
		}
	}
	for _, source := range []string{deep + "flag", largest, strings.Replace(largest, "h: flag", "h: l", 1), strings.Repeat("map ", 4) + "pairs"} {
		n, _ := parser.Lattice(source)
		if _, fault := types.Lattice(known(), n); fault != (api.Fault{}) {
			t.Errorf("%s: %v", source, fault)
		}
	}
}

// treeOf returns a tree for a description, with the names and the premises in any order and any offsets.
func treeOf(l api.Lattice, source *rand.Rand) api.Node {
	at := func() int { return source.Intn(1000) }
	quotes := func(list []string) []api.Node {
		var nodes []api.Node
		for _, i := range source.Perm(len(list)) {
			nodes = append(nodes, api.Node{Kind: api.NodeQuote, Text: list[i], At: at()})
		}
		return nodes
	}
	n := api.Node{At: at()}
	switch l.Kind {
	case api.Flag:
		n.Kind = api.NodeFlag
	case api.Register:
		n.Kind = api.NodeRegister
	case api.Max, api.Min:
		n.Kind = api.NodeMax + l.Kind - api.Max
		n.Kids = []api.Node{{Kind: api.NodeInt, N: l.Lo, At: at()}, {Kind: api.NodeInt, N: l.Hi, At: at()}}
	case api.Set, api.Flat, api.Map:
		n.Kind = map[int]int{api.Set: api.NodeSet, api.Flat: api.NodeFlat, api.Map: api.NodeMap}[l.Kind]
		n.Kids = quotes(l.Names)
	case api.Product:
		n.Kind = api.NodeProduct
		for i, name := range l.Names {
			n.Kids = append(n.Kids, api.Node{Kind: api.NodeMember, Text: name, At: at(), Kids: []api.Node{treeOf(l.Parts[i], source)}})
		}
		return n
	case api.Lex:
		n.Kind = api.NodeLex
	case api.Closed:
		n.Kind = api.NodeClosed
		n.Kids = quotes(l.Names)
		for _, r := range l.Rules {
			n.Kids = append(n.Kids, api.Node{Kind: api.NodeRule, At: at(), Kids: append(quotes(r.If), quotes([]string{r.Then})...)})
		}
	}
	for _, part := range l.Parts {
		n.Kids = append(n.Kids, treeOf(part, source))
	}
	return n
}

// TestAllLattices covers P18.1 for trees of many descriptions.
func TestAllLattices(t *testing.T) {
	source := rand.New(rand.NewSource(6))
	for range 5 {
		for _, l := range sample.Objects() {
			n := treeOf(l, source)
			if got, fault := types.Lattice(nil, n); fault != (api.Fault{}) || !lattice.Equal(got, l) {
				t.Fatalf("%v: %v, %v; not %v", n, got, fault, l)
			}
		}
	}
}

// doubtful returns the nodes of a lattice that have a fault of their own, in preorder.
func doubtful(n api.Node, named []string) []int {
	var found []int
	repeated := func(kids []api.Node, i int) bool {
		return slices.ContainsFunc(kids[:i], func(kid api.Node) bool { return kid.Kind == kids[i].Kind && kid.Text == kids[i].Text })
	}
	if n.Kind == api.NodeNamed && !slices.Contains(named, n.Text) {
		found = append(found, n.At)
	}
	for i, kid := range n.Kids {
		conclusion := n.Kind == api.NodeRule && i == len(n.Kids)-1
		if (kid.Kind == api.NodeQuote && !conclusion || kid.Kind == api.NodeMember) && repeated(n.Kids, i) {
			found = append(found, kid.At)
		}
		found = append(found, doubtful(kid, named)...)
	}
	return found
}

// TestLatticesAtRandom covers P18.1 and P18.6: the first fault of random trees.
func TestLatticesAtRandom(t *testing.T) {
	source := rand.New(rand.NewSource(7))
	codes := map[api.Errno]int{}
	for range 6000 {
		trees := sample.Trees{Intn: source.Intn, Names: []string{"pairs", "l", "set", "x", "a", "b"}, Quotes: strings.Split("abcdefghijklmnopqrstuvwxyz", "")}
		n := trees.Lattice(source.Intn(4))
		before := text(n)
		l, fault := types.Lattice(known(), n)
		codes[fault.Code]++
		bad := doubtful(n, []string{"pairs", "l", "set"})
		switch {
		case len(bad) > 0 && fault != api.Fault{Code: api.ErrName, At: bad[0]}:
			t.Fatalf("%v: %v, not at %d", n, fault, bad[0])
		case len(bad) == 0 && fault.Code != api.OK && fault.At != n.At:
			t.Fatalf("%v: %v, not at the root", n, fault)
		case fault.Code != api.OK && text(l) != text(api.Lattice{}), fault.Code == api.OK && (len(bad) > 0 || lattice.Check(l) != api.OK):
			t.Fatalf("%v: %v, %v", n, l, fault)
		}
		if text(n) != before {
			t.Fatalf("%s has become %v", before, n)
		}
	}
	if len(codes) < 5 {
		t.Errorf("only the codes %v", codes)
	}
}
