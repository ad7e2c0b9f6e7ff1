package printer_test

import (
	"math/rand"
	"slices"
	"strconv"
	"strings"
	"testing"

	"plexus/api"
	"plexus/lexer"
	"plexus/parser"
	"plexus/printer"
	"plexus/sample"
)

// trees returns a maker of random possible trees.
func trees(source *rand.Rand) sample.Trees {
	return sample.Trees{Intn: source.Intn, Names: []string{"a", "b", "cart-1", "z9", "abcdefghij-12345"}, Quotes: []string{"a", "set", "s", "x-1", "abcdefghij-12345"}}
}

// full returns a source of an expression with parentheses around all operands. It knows no levels.
func full(n api.Node) string {
	var kids []string
	for _, kid := range n.Kids {
		s := full(kid)
		if n.Kind != api.NodeEntry && kid.Kind != api.NodeEntry {
			s = "(" + s + ")"
		}
		kids = append(kids, s)
	}
	operators := map[int]string{
		api.NodeOr: "or", api.NodeAnd: "and", api.NodeLessEq: "<=", api.NodeLess: "<", api.NodeEqual: "==", api.NodeIn: "in", api.NodeLeq: "leq", api.NodeJoin: "join", api.NodePlus: "+", api.NodeMinus: "-",
		api.NodeTrue: "true", api.NodeFalse: "false", api.NodeState: "s", api.NodeBottom: "bottom",
	}
	switch n.Kind {
	case api.NodeInt:
		return strconv.FormatInt(n.N, 10)
	case api.NodeQuote:
		return "'" + n.Text + "'"
	case api.NodeIf:
		return "if " + kids[0] + " then " + kids[1] + " else " + kids[2]
	case api.NodeNot:
		return "not " + kids[0]
	case api.NodeField:
		return kids[0] + "." + n.Text
	case api.NodeIndex:
		return kids[0] + "[" + kids[1] + "]"
	case api.NodeCall:
		return n.Text + "(" + strings.Join(kids, ", ") + ")"
	case api.NodeEntry:
		return strings.Join(append(strings.Fields(n.Text), kids...), ": ")
	case api.NodeName:
		return n.Text
	}
	if len(kids) == 0 {
		return operators[n.Kind]
	}
	return kids[0] + " " + operators[n.Kind] + " " + kids[1]
}

// pairs returns the offsets of the parentheses that are not those of a call, each with the offset of the one that closes it.
func pairs(t *testing.T, source string) [][2]int {
	t.Helper()
	tokens, fault := lexer.Lex(source)
	if fault.Code != api.OK {
		t.Fatalf("%q: %v", source, fault)
	}
	functions := strings.Fields("flag num set map rec pair one write size sum number on keys values first second conflict")
	var found [][2]int
	var open []int // offsets, and -1 for a call
	for i, token := range tokens {
		switch token.Text {
		case "(":
			at := token.At
			if i > 0 && tokens[i-1].Kind == api.TokKeyword && slices.Contains(functions, tokens[i-1].Text) {
				at = -1
			}
			open = append(open, at)
		case ")":
			if at := open[len(open)-1]; at >= 0 {
				found = append(found, [2]int{at, token.At})
			}
			open = open[:len(open)-1]
		}
	}
	return found
}

// without returns a source without a pair of parentheses.
func without(source string, pair [2]int) string {
	return source[:pair[0]] + source[pair[0]+1:pair[1]] + source[pair[1]+1:]
}

// fewest returns a source without all parentheses that can be left out.
func fewest(t *testing.T, source string, n api.Node) string {
	t.Helper()
search:
	for {
		for _, pair := range pairs(t, source) {
			if m, fault := parser.Expression(without(source, pair)); fault.Code == api.OK && parser.Same(m, n) {
				source = without(source, pair)
				continue search
			}
		}
		return source
	}
}

// TestFewest covers P17.1 and P17.2: what is printed is what is left of a source with parentheses around all operands when those that can be left out are left out.
func TestFewest(t *testing.T) {
	source := rand.New(rand.NewSource(2))
	for range 1500 {
		n := trees(source).Expression(1 + source.Intn(4))
		want := full(n)
		if len(want) > 2000 {
			continue
		}
		want = fewest(t, want, n)
		if s, e := printer.Expression(n); s != want || e != api.OK {
			t.Fatalf("%q, %d; not %q", s, e, want)
		}
	}
}

// TestNecessary covers P17.2: without a pair of parentheses the source of a larger tree is another one, or none.
func TestNecessary(t *testing.T) {
	source := rand.New(rand.NewSource(3))
	seen := 0
	for range 300 {
		n := trees(source).Expression(6)
		s, e := printer.Expression(n)
		if e != api.OK {
			t.Fatalf("%d", e)
		}
		for _, pair := range pairs(t, s) {
			seen++
			if m, fault := parser.Expression(without(s, pair)); fault.Code == api.OK && parser.Same(m, n) {
				t.Fatalf("the parentheses at %v of %q can be left out", pair, s)
			}
		}
	}
	if seen < 1000 {
		t.Errorf("only %d pairs", seen)
	}
}

// TestParsedAgain covers P17.2: the parser returns the same tree for what is printed, and this is printed again.
func TestParsedAgain(t *testing.T) {
	source := rand.New(rand.NewSource(4))
	check := func(l language, n api.Node) {
		t.Helper()
		s, e := l.print(n)
		m, fault := l.parse(s)
		if e != api.OK || fault != (api.Fault{}) || !parser.Same(m, n) {
			t.Fatalf("%v: %q, %d, %v", n, s, e, fault)
		}
		if again, e := l.print(m); again != s || e != api.OK {
			t.Fatalf("%q and %q, %d", s, again, e)
		}
	}
	for range 1000 {
		maker := trees(source)
		check(expressions, maker.Expression(source.Intn(7)))
		check(lattices, maker.Lattice(source.Intn(5)))
		check(programs, maker.Program(source.Intn(5)))
	}
}

// TestConcatenation covers P17.2: the source of two lists of declarations is that of the first one and that of the second one.
func TestConcatenation(t *testing.T) {
	source := rand.New(rand.NewSource(5))
	for range 300 {
		a, b := trees(source).Program(3), trees(source).Program(3)
		x, e := printer.Print(a)
		y, f := printer.Print(b)
		a.Kids = append(slices.Clone(a.Kids), b.Kids...)
		if s, g := printer.Print(a); s != x+y || e != api.OK || f != api.OK || g != api.OK {
			t.Fatalf("%q, %q and %q: %d, %d, %d", x, y, s, e, f, g)
		}
	}
}

// TestDeclarations covers P17.1: the source of a declaration is that of its parts, and words and signs between them.
func TestDeclarations(t *testing.T) {
	source := rand.New(rand.NewSource(6))
	sorts := []string{"", "int", "bool", "name", "names"}
	for range 300 {
		program := trees(source).Program(3)
		want := ""
		for _, d := range program.Kids {
			if d.Kind == api.NodeLattice || d.Kind == api.NodeObject {
				s, _ := printer.Lattice(d.Kids[0])
				want += map[int]string{api.NodeLattice: "lattice " + d.Text + " = ", api.NodeObject: "object " + d.Text + ": "}[d.Kind] + s + ";\n"
				continue
			}
			var params []string
			last := len(d.Kids) - 1
			for _, p := range d.Kids[:last-1] {
				params = append(params, p.Text+": "+sorts[p.N])
			}
			s, _ := printer.Expression(d.Kids[last])
			head := d.Text + "(" + strings.Join(params, ", ") + ") on " + d.Kids[last-1].Text
			want += map[int]string{api.NodeUpdate: "update " + head, api.NodeQuery: "query " + head + ": " + sorts[d.N]}[d.Kind] + " = " + s + ";\n"
		}
		if s, e := printer.Print(program); s != want || e != api.OK {
			t.Fatalf("%q, %d; not %q", s, e, want)
		}
	}
}

// TestOffsets covers P17.1: offsets have no influence.
func TestOffsets(t *testing.T) {
	source := rand.New(rand.NewSource(7))
	for range 200 {
		n := trees(source).Program(3)
		moved := move(n, source)
		s, _ := printer.Print(n)
		if again, e := printer.Print(moved); again != s || e != api.OK {
			t.Fatalf("%q and %q, %d", s, again, e)
		}
	}
}

// move returns a tree with other offsets.
func move(n api.Node, source *rand.Rand) api.Node {
	kids := n.Kids
	n.At, n.Kids = int(source.Int63())-int(source.Int63()), nil
	for _, kid := range kids {
		n.Kids = append(n.Kids, move(kid, source))
	}
	return n
}

// TestBroken covers the errors of P17.1: a tree in which one node is not as it should be is refused.
func TestBroken(t *testing.T) {
	source := rand.New(rand.NewSource(8))
	for range 300 {
		n := trees(source).Program(3)
		for range 20 {
			broken := move(n, source)
			list := nodes(&broken)
			if breakNode(list[source.Intn(len(list))], source) {
				programs.fails(t, broken, api.ErrArgument)
			}
		}
		if _, e := printer.Print(n); e != api.OK {
			t.Fatalf("%v: %d", n, e)
		}
	}
}

// breakNode changes a node so that no tree contains it at its place, and reports whether it has done so.
func breakNode(n *api.Node, source *rand.Rand) bool {
	wrong := api.Node{Kind: api.NodeProgram}
	fixed := []int{api.NodeLattice, api.NodeObject, api.NodeUpdate, api.NodeQuery, api.NodeMax, api.NodeMin, api.NodeMap, api.NodeLex, api.NodeMember, api.NodeIf, api.NodeOr, api.NodeAnd, api.NodeNot, api.NodeLessEq, api.NodeLess, api.NodeEqual, api.NodeIn, api.NodeLeq, api.NodeJoin, api.NodePlus, api.NodeMinus, api.NodeField, api.NodeIndex, api.NodeEntry}
	switch source.Intn(6) {
	case 0:
		n.Kind = []int{0, -1, 8, 9, 23, 29, -30, 53 + source.Intn(9)}[source.Intn(8)]
	case 1:
		n.Text += "A"
	case 2:
		n.Kids = append(n.Kids, wrong)
	case 3:
		n.Kids = append([]api.Node{wrong}, n.Kids...)
	case 4:
		if !slices.Contains(fixed, n.Kind) {
			return false
		}
		n.Kids = n.Kids[:len(n.Kids)-1]
	case 5:
		switch n.Kind {
		case api.NodeInt:
			n.N = []int64{api.MaxNumber + 1, -api.MaxNumber - 1, 1 << 62, -1 << 63}[source.Intn(4)]
		case api.NodeParam, api.NodeQuery:
			n.N = []int64{0, 5, -1, 1 << 40}[source.Intn(4)]
		default:
			n.N = []int64{1, -1, 1 << 62}[source.Intn(3)]
		}
	}
	return true
}

// nodes returns pointers to all nodes of a tree.
func nodes(n *api.Node) []*api.Node {
	list := []*api.Node{n}
	for i := range n.Kids {
		list = append(list, nodes(&n.Kids[i])...)
	}
	return list
}

// TestAnyNodes covers P1: all functions terminate without a panic for nodes of all kinds, and return nothing with an error.
func TestAnyNodes(t *testing.T) {
	source := rand.New(rand.NewSource(9))
	var random func(depth int) api.Node
	random = func(depth int) api.Node {
		n := api.Node{Kind: source.Intn(56) - 1, N: int64(source.Intn(8) - 2), Text: []string{"", "a", "set", "map", "rec", "A"}[source.Intn(6)]}
		for range source.Intn(4) {
			if depth > 0 {
				n.Kids = append(n.Kids, random(depth-1))
			}
		}
		return n
	}
	for range 20000 {
		n := random(3)
		for i, l := range []language{programs, expressions, lattices} {
			s, e := l.print(n)
			m, fault := l.parse(s)
			if e != api.OK && (e != api.ErrArgument || s != "") || e == api.OK && (fault.Code != api.OK || !parser.Same(m, n)) {
				t.Fatalf("function %d for %v: %q, %d", i, n, s, e)
			}
		}
	}
}

// TestDeepTrees covers P1: trees with as many levels as the document allows.
func TestDeepTrees(t *testing.T) {
	x := leaf(api.NodeName, "x")
	not, plus, field, index, lattice := x, x, x, x, leaf(api.NodeFlag, "")
	for range 65000 {
		not, plus, field, index, lattice = node(api.NodeNot, "", not), node(api.NodePlus, "", plus, x), node(api.NodeField, "f", field), node(api.NodeIndex, "", x, index), node(api.NodeMap, "", lattice)
	}
	for _, n := range []api.Node{not, plus, field, index} {
		expressions.fails(t, n, api.ErrLimit)
	}
	lattices.fails(t, lattice, api.ErrLimit)
}
