package shape_test

import (
	"math"
	"math/rand"
	"testing"

	"plexus/api"
	"plexus/lexer"
	"plexus/names"
	"plexus/parser"
	"plexus/sample"
	"plexus/shape"
)

// isWord is for trees of sources: names that are no keywords.
func isWord(s string) bool { return names.Valid(s) && !lexer.Keyword(s) }

// kinds returns for which of the three kinds of trees a node is one.
func kinds(n api.Node, isName func(s string) bool) [3]bool {
	return [3]bool{shape.Program(n, isName), shape.Expression(n, isName), shape.Lattice(n, isName)}
}

// The three kinds of trees, and none of them.
var (
	program    = [3]bool{true, false, false}
	expression = [3]bool{false, true, false}
	lattice    = [3]bool{false, false, true}
	nothing    = [3]bool{}
)

// TestTrees checks that all trees have their shape.
func TestTrees(t *testing.T) {
	source := rand.New(rand.NewSource(1))
	trees := sample.Trees{Intn: source.Intn, Names: []string{"a", "cart-1"}, Quotes: []string{"a", "set"}}
	for range 500 {
		depth := source.Intn(5)
		for i, n := range []api.Node{trees.Program(depth), trees.Expression(depth), trees.Lattice(depth)} {
			if got := kinds(n, isWord); got != [][3]bool{program, expression, lattice}[i] {
				t.Fatalf("%v: %v", n, got)
			}
		}
	}
}

// TestParsed checks that what the parser returns has its shape.
func TestParsed(t *testing.T) {
	n, fault := parser.Parse("lattice l = {a: max(-1, 5), b: map('x', 'y') lex(flag, set)}; object o: closed('a', 'b'; 'a' => 'b'; => 'a'); update u(p: int, q: names) on o = map(a: b) join rec(a: s.c[d]); query q() on o: bool = not true or write(1, -1, 'x') in bottom;")
	if fault.Code != api.OK || kinds(n, isWord) != program {
		t.Errorf("%v: %v", fault, kinds(n, isWord))
	}
}

// TestNames checks that only the texts at the places of a NAME are left to the caller.
func TestNames(t *testing.T) {
	for _, name := range []string{"set", "s", "A", ""} {
		only := func(s string) bool { return s == name }
		for _, c := range []struct {
			n    api.Node
			want [3]bool
		}{
			{api.Node{Kind: api.NodeName, Text: name}, expression},
			{api.Node{Kind: api.NodeNamed, Text: name}, lattice},
			{api.Node{Kind: api.NodeField, Text: name, Kids: []api.Node{{Kind: api.NodeState}}}, expression},
			{api.Node{Kind: api.NodeCall, Text: "rec", Kids: []api.Node{{Kind: api.NodeEntry, Text: name, Kids: []api.Node{{Kind: api.NodeState}}}}}, expression},
			{api.Node{Kind: api.NodeProduct, Kids: []api.Node{{Kind: api.NodeMember, Text: name, Kids: []api.Node{{Kind: api.NodeFlag}}}}}, lattice},
			{api.Node{Kind: api.NodeProgram, Kids: []api.Node{{Kind: api.NodeObject, Text: name, Kids: []api.Node{{Kind: api.NodeFlag}}}}}, program},
			{api.Node{Kind: api.NodeProgram, Kids: []api.Node{{Kind: api.NodeQuery, Text: name, N: 4, Kids: []api.Node{{Kind: api.NodeParam, Text: name, N: 1}, {Kind: api.NodeName, Text: name}, {Kind: api.NodeState}}}}}, program},
		} {
			if got := kinds(c.n, only); got != c.want {
				t.Errorf("%q in %v: %v", name, c.n, got)
			}
			if got := kinds(c.n, isWord); got != nothing {
				t.Errorf("%q in %v is no word: %v", name, c.n, got)
			}
		}
	}
	for _, text := range []string{"", "A", "1", "abcdefghijklmnopq"} {
		if n := (api.Node{Kind: api.NodeQuote, Text: text}); kinds(n, func(string) bool { return true }) != nothing {
			t.Errorf("%q can be quoted", text)
		}
	}
}

// TestIntegers checks that the numbers of integers are left to the caller.
func TestIntegers(t *testing.T) {
	for _, n := range []int64{0, math.MaxInt64, math.MinInt64} {
		i := api.Node{Kind: api.NodeInt, N: n}
		if kinds(i, isWord) != expression || kinds(api.Node{Kind: api.NodeMax, Kids: []api.Node{i, i}}, isWord) != lattice {
			t.Errorf("%d is refused", n)
		}
	}
}

// TestOthers checks nodes that are no trees, with kinds and numbers of kids of all kinds.
func TestOthers(t *testing.T) {
	source := rand.New(rand.NewSource(2))
	counts := map[[3]bool]int{}
	for range 20000 {
		n := api.Node{Kind: source.Intn(56) - 1, N: int64(source.Intn(3) - 1), Text: []string{"", "a", "set"}[source.Intn(3)]}
		for range source.Intn(4) {
			n.Kids = append(n.Kids, api.Node{Kind: source.Intn(56) - 1, Text: []string{"", "a"}[source.Intn(2)]})
		}
		got := kinds(n, isWord)
		counts[got]++
		if want := fits(n); got != want {
			t.Fatalf("%v: %v", n, got)
		}
	}
	if len(counts) < 3 || counts[nothing] < 10000 {
		t.Errorf("%v", counts)
	}
}

// fits returns for which of the three kinds of trees a node with leaves as its kids is one.
func fits(n api.Node) [3]bool {
	count, bare := len(n.Kids), n.Text == "" && n.N == 0
	some := func(from, to int, has func(n api.Node) bool) int {
		found := 0
		for _, kid := range n.Kids[from:to] {
			if has(kid) {
				found++
			}
		}
		return found
	}
	isQuote := func(n api.Node) bool { return n.Kind == api.NodeQuote && n.Text == "a" }
	isInt := func(n api.Node) bool { return n.Kind == api.NodeInt && n.Text == "" }
	// A call without arguments is an expression, too, but the kids have no name of a function.
	isExpression := func(n api.Node) bool {
		return isQuote(n) || isInt(n) || n.Kind == api.NodeName && n.Text == "a" || n.Text == "" && (n.Kind == api.NodeTrue || n.Kind == api.NodeFalse || n.Kind == api.NodeState || n.Kind == api.NodeBottom)
	}
	isLattice := func(n api.Node) bool {
		return n.Kind == api.NodeNamed && n.Text == "a" || n.Text == "" && (n.Kind == api.NodeFlag || n.Kind == api.NodeRegister || n.Kind == api.NodeSet || n.Kind == api.NodeFlat || n.Kind == api.NodeClosed)
	}
	ok := map[int]bool{
		api.NodeProgram: bare && count == 0,
		api.NodeFlag:    bare && count == 0, api.NodeRegister: bare && count == 0, api.NodeNamed: n.Text == "a" && n.N == 0 && count == 0,
		api.NodeSet: bare && some(0, count, isQuote) == count, api.NodeFlat: bare && some(0, count, isQuote) == count, api.NodeClosed: bare && some(0, count, isQuote) == count,
		api.NodeMax: bare && count == 2 && some(0, 2, isInt) == 2, api.NodeMin: bare && count == 2 && some(0, 2, isInt) == 2, api.NodeLex: bare && count == 2 && some(0, 2, isLattice) == 2,
		api.NodeMap: bare && count > 0 && some(0, max(count-1, 0), isQuote) == count-1 && some(max(count-1, 0), count, isLattice) == 1,
		api.NodeInt: n.Text == "" && count == 0, api.NodeQuote: n.Text != "" && n.N == 0 && count == 0, api.NodeName: n.Text == "a" && n.N == 0 && count == 0,
		api.NodeTrue: bare && count == 0, api.NodeFalse: bare && count == 0, api.NodeState: bare && count == 0, api.NodeBottom: bare && count == 0,
		api.NodeField: n.Text == "a" && n.N == 0 && count == 1 && some(0, 1, isExpression) == 1, api.NodeNot: bare && count == 1 && some(0, 1, isExpression) == 1,
		api.NodeIf:   bare && count == 3 && some(0, 3, isExpression) == 3,
		api.NodeCall: n.Text == "set" && n.N == 0 && some(0, count, isExpression) == count, api.NodeIndex: bare && count == 2 && some(0, 2, isExpression) == 2,
	}[n.Kind]
	if n.Kind >= api.NodeOr && n.Kind <= api.NodeMinus && n.Kind != api.NodeNot {
		ok = bare && count == 2 && some(0, 2, isExpression) == 2
	}
	switch {
	case !ok:
		return nothing
	case n.Kind == api.NodeProgram:
		return program
	case n.Kind < api.NodeIf:
		return lattice
	}
	return expression
}
