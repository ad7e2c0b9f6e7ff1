package types_test

import (
	"math/rand"
	"strings"
	"testing"

	"plexus/api"
	"plexus/lattice"
	"plexus/parser"
	"plexus/sample"
	"plexus/types"
)

// separate checks that no slices in a list of values share memory, neither within a value nor with another one.
func separate(t *testing.T, values ...any) {
	t.Helper()
	if !sample.Separate(values...) {
		t.Fatalf("memory is shared, of %v", values)
	}
}

// TestMemory covers the rule that results share no memory with arguments or with each other, for all functions with results that have any.
func TestMemory(t *testing.T) {
	source := rand.New(rand.NewSource(10))
	for range 100 {
		n, _ := declarations(source)
		p, _ := types.Check(n)
		q, _ := types.Check(n)
		tree, _ := types.Tree(p)
		other, _ := types.Tree(p)
		separate(t, n, p, q, tree, other)
	}
	for _, l := range sample.Objects() {
		l, _ = lattice.Decode(lattice.Encode(l)) // some of them have the same part twice
		m := sample.NewMaker(source.Intn, l)
		want, how := wanted(m)
		n := m.Make(want, how, 4).Tree
		e, fault := types.Expression(l, m.Params, want, n)
		f, _ := types.Expression(l, m.Params, want, n)
		if fault.Code != api.OK {
			t.Fatalf("%v: %v", n, fault)
		}
		// The type that is expected can be that of the object.
		separate(t, l, m.Params, n, e, f)
		separate(t, want, e, f)
	}
	list := []api.Object{{Name: "l", Lattice: sample.Objects()[3]}}
	for _, text := range []string{"l", "lex(flag, l)", "map('b', 'a') l", "{a: set('x'), b: l}", "{a: closed('a', 'b'; 'a' => 'b'), b: flat('x', 'y')}"} {
		n, _ := parser.Lattice(text)
		a, fault := types.Lattice(list, n)
		b, _ := types.Lattice(list, n)
		if fault.Code != api.OK {
			t.Fatalf("%s: %v", text, fault)
		}
		separate(t, list, n, a, b)
	}
}

// TestNothingKept covers the rule that nothing is kept from call to call: earlier results and arguments can be written over.
func TestNothingKept(t *testing.T) {
	n := program(t, object+update+"s join rec(a: map(x: set(l)), c: num(i + 1));")
	first, _ := types.Check(n)
	before := text(first)
	first.Objects[0].Lattice.Names[0] = "zz"
	first.Updates[0].Body.Kids[0].Type.Lattice.Parts[0].Hi = 99
	first.Updates[0].Params[0].Name = "zz"
	if again, fault := types.Check(n); fault != (api.Fault{}) || text(again) != before {
		t.Errorf("%v, %v", fault, again)
	}
}

// TestAnyTrees covers P1 and P18.6: random trees, most of which have a fault.
func TestAnyTrees(t *testing.T) {
	source := rand.New(rand.NewSource(11))
	good := 0
	for range 3000 {
		trees := sample.Trees{Intn: source.Intn, Names: []string{"a", "b", "c", "d", "set"}, Quotes: []string{"a", "b", "c", "s"}}
		n := trees.Program(source.Intn(3))
		p, fault := types.Check(n)
		if fault.Code == api.OK {
			good++
		}
		if fault.Code == api.OK != types.Program(p) && fault.Code == api.OK || fault.Code != api.OK && (find(&n, fault.At) == nil || text(p) != text(api.Program{})) {
			t.Fatalf("%v: %v, %v", n, fault, p)
		}
	}
	if good < 300 {
		t.Errorf("only %d programs without faults", good)
	}
}

// anyNode returns a node that is a tree only by chance.
func anyNode(source *rand.Rand, depth int) api.Node {
	n := api.Node{Kind: source.Intn(56) - 1, N: int64(source.Intn(8) - 2), At: source.Intn(100), Text: []string{"", "a", "b", "set", "map", "rec", "pair", "first", "A"}[source.Intn(9)]}
	for range source.Intn(4) {
		if depth > 0 {
			n.Kids = append(n.Kids, anyNode(source, depth-1))
		}
	}
	return n
}

// TestAnyArguments covers P1: all functions terminate without a panic for arguments of all kinds, also for those for which no result is promised.
func TestAnyArguments(t *testing.T) {
	source := rand.New(rand.NewSource(12))
	params := []api.Param{{Name: "a", Sort: 9}, {Name: "a"}, {Name: "", Sort: -1}, {Name: "b", Sort: 4}}
	trees := sample.Trees{Intn: source.Intn, Names: []string{"a", "b", "z"}, Quotes: []string{"a", "b"}}
	for range 20000 {
		l, n := sample.AnyLattice(source.Intn, 3), anyNode(source, 3)
		want := api.Type{Sort: source.Intn(7) - 1, Lattice: sample.AnyLattice(source.Intn, 2)}
		for i := range 2 {
			known := []api.Object{{Name: "a", Lattice: sample.AnyLattice(source.Intn, 2)}, {Name: "a"}, {Name: "b", Lattice: api.Lattice{Kind: api.Map}}}
			p, fault := types.Check(n)
			refused(t, n, fault, text(p) == text(api.Program{}))
			d, fault := types.Lattice(known, n)
			refused(t, n, fault, text(d) == text(api.Lattice{}))
			e, fault := types.Expression(l, params, want, n)
			refused(t, n, fault, text(e) == text(api.Expr{}))
			e, fault = types.Expression(sample.Objects()[0], params, []api.Type{none, want}[i], n)
			refused(t, n, fault, text(e) == text(api.Expr{}))
			n = trees.Expression(2)
			if source.Intn(2) == 0 {
				n = trees.Lattice(2)
			}
		}
		f := api.Function{Name: "f", On: "a", Params: params[3:], Result: source.Intn(7) - 1, Body: sample.AnyExpr(source.Intn, 2)}
		types.Valid(l, f)
		types.Valid(sample.Objects()[0], f)
		types.Same(want, api.Type{Lattice: l})
		p := api.Program{Objects: []api.Object{{Name: "a", Lattice: l}}, Updates: []api.Function{f}}
		if tree, e := types.Tree(p); types.Program(p) != (e == api.OK) || e != api.OK && text(tree) != text(api.Node{}) {
			t.Fatalf("%v: %d", p, e)
		}
	}
}

// refused checks that there is no result with a fault.
func refused(t *testing.T, n api.Node, fault api.Fault, empty bool) {
	t.Helper()
	if fault.Code != api.OK && !empty || fault.Code == api.OK && fault.At != 0 {
		t.Fatalf("%v: %v", n, fault)
	}
}

// TestDeep covers P1: trees and expressions with as many levels as the document allows.
func TestDeep(t *testing.T) {
	l := api.Lattice{Kind: api.Set}
	state, bottom, x := api.Node{Kind: api.NodeState}, api.Node{Kind: api.NodeBottom}, api.Node{Kind: api.NodeTrue}
	binary := func(kind int, a, b api.Node) api.Node { return api.Node{Kind: kind, Kids: []api.Node{a, b}} }
	left, right, open, choice, not, lattices := state, state, bottom, state, x, api.Node{Kind: api.NodeFlag}
	const levels = 65000
	for range levels {
		left, right, open = binary(api.NodeJoin, left, bottom), binary(api.NodeJoin, bottom, right), binary(api.NodeJoin, open, bottom)
		choice = api.Node{Kind: api.NodeIf, Kids: []api.Node{x, bottom, choice}}
		not = api.Node{Kind: api.NodeNot, Kids: []api.Node{not}}
		lattices = api.Node{Kind: api.NodeMap, Kids: []api.Node{lattices}}
	}
	for i, n := range []api.Node{left, right, choice, open} {
		for _, want := range []api.Type{none, of(l)} {
			e, fault := types.Expression(l, nil, want, n)
			if i == 3 && text(want) == text(none) {
				refused(t, api.Node{}, fault, len(e.Kids) == 0 && fault == api.Fault{Code: api.ErrType})
				continue
			}
			f := api.Function{Name: "f", On: "o", Body: e}
			if fault.Code != api.OK || !types.Valid(l, f) {
				t.Errorf("case %d: %v", i, fault)
			}
			p := api.Program{Objects: []api.Object{{Name: "o", Lattice: l}}, Updates: []api.Function{f}}
			if tree, code := types.Tree(p); code != api.OK || !parser.Same(tree.Kids[1].Kids[1], n) {
				t.Errorf("case %d: the tree has the error %d", i, code)
			}
		}
	}
	if e, fault := types.Expression(l, nil, truth, not); fault.Code != api.OK || len(e.Kids) != 1 {
		t.Errorf("not: %v", fault)
	}
	size, write, index := state, bottom, state
	for range levels {
		size = api.Node{Kind: api.NodeCall, Text: "size", Kids: []api.Node{size}}
		write = api.Node{Kind: api.NodeCall, Text: "write", Kids: []api.Node{write, {Kind: api.NodeInt}, {Kind: api.NodeQuote, Text: "a"}}}
		index = api.Node{Kind: api.NodeIndex, Kids: []api.Node{index, {Kind: api.NodeQuote, Text: "a"}}}
	}
	for i, n := range []api.Node{size, write, index} {
		if e, fault := types.Expression(l, nil, none, n); fault.Code != api.ErrType != (i == 1) || (i == 1) != types.Valid(api.Lattice{Kind: api.Register}, api.Function{Name: "f", On: "o", Body: e}) {
			t.Errorf("call %d: %v", i, fault)
		}
	}
	if _, fault := types.Lattice(nil, lattices); fault != (api.Fault{Code: api.ErrLimit}) {
		t.Errorf("a lattice: %v", fault)
	}
}

// TestLongSource covers P1: a source that is as long as it can be, on an object whose lattice has many names.
func TestLongSource(t *testing.T) {
	var list []string
	for i := range 32 {
		list = append(list, "'"+strings.Repeat("a", 1+i%16)+strings.Repeat("b", i/16)+"'")
	}
	l := "{a: flag"
	for _, c := range "bcdefgh" {
		l += ", " + string(c) + ": set(" + strings.Join(list[:16], ", ") + ")"
	}
	source := "lattice k = " + l + "}; object o: k; query q() on o: bool = s leq s"
	source += strings.Repeat(" join s", (65536-len(source)-1)/7) + ";"
	p := checked(t, source)
	tree, e := types.Tree(p)
	if e != api.OK {
		t.Fatalf("%d", e)
	}
	if again, fault := types.Check(tree); fault.Code != api.OK || !types.Program(again) {
		t.Errorf("%v", fault)
	}
}
