package printer_test

import (
	"math"
	"math/rand"
	"strings"
	"testing"

	"plexus/api"
	"plexus/parser"
	"plexus/printer"
)

// language is one of the three kinds of trees, with the functions that read and print them.
type language struct {
	parse func(source string) (api.Node, api.Fault)
	print func(n api.Node) (string, api.Errno)
}

// The three kinds of trees.
var (
	programs    = language{parser.Parse, printer.Print}
	expressions = language{parser.Expression, printer.Expression}
	lattices    = language{parser.Lattice, printer.Lattice}
)

// tree returns the tree of a source.
func (l language) tree(t *testing.T, source string) api.Node {
	t.Helper()
	n, fault := l.parse(source)
	if fault != (api.Fault{}) {
		t.Fatalf("%.200q has the fault %v", source, fault)
	}
	return n
}

// prints checks what is printed for the tree of a source.
func (l language) prints(t *testing.T, source, want string) {
	t.Helper()
	if s, e := l.print(l.tree(t, source)); s != want || e != api.OK {
		t.Errorf("%q is printed as %q, %d; not %q", source, s, e, want)
	}
}

// fails checks that the tree n is refused.
func (l language) fails(t *testing.T, n api.Node, want api.Errno) {
	t.Helper()
	if s, e := l.print(n); s != "" || e != want {
		t.Errorf("%.300v: %.100q, %d; not %d", n, s, e, want)
	}
}

// TestExpressions covers P17.1 for each construct of expressions.
func TestExpressions(t *testing.T) {
	for _, c := range [][2]string{
		{"((a)+(b - c))", "a + (b - c)"}, {"(a - b)-c", "a - b - c"}, {"not (a or b)", "not (a or b)"}, {"(if a then b else c) + - 1", "(if a then b else c) + -1"},
		{" ( s ) ", "s"}, {"true", "true"}, {"false", "false"}, {"bottom", "bottom"}, {"a-1", "a-1"}, {"'set'", "'set'"}, {"'a-1'", "'a-1'"},
		{"0", "0"}, {"-0", "0"}, {"- 7", "-7"}, {"1000000000000000", "1000000000000000"}, {"-1000000000000000", "-1000000000000000"},
		{"if(a)then(b)else(c)", "if a then b else c"}, {"if a then if b then c else d else if e then f else g", "if a then if b then c else d else if e then f else g"},
		{"a or b", "a or b"}, {"a and b", "a and b"}, {"not a", "not a"}, {"a<=b", "a <= b"}, {"a<b", "a < b"}, {"a==b", "a == b"}, {"a in b", "a in b"}, {"a leq b", "a leq b"}, {"a join b", "a join b"}, {"a+b", "a + b"}, {"1-1", "1 - 1"}, {"a - -1", "a - -1"},
		{"a . f", "a.f"}, {"a [ b ]", "a[b]"}, {"-1 . a", "-1.a"}, {"s.a[k].b[l][m]", "s.a[k].b[l][m]"}, {"(a.b)[c]", "a.b[c]"},
		{"rec( )", "rec()"}, {"map( )", "map()"}, {"set()", "set()"}, {"set('a',b)", "set('a', b)"}, {"write(s,1,'x')", "write(s, 1, 'x')"}, {"rec(a:1,b:s)", "rec(a: 1, b: s)"}, {"map('k':1,(x):(y))", "map('k': 1, x: y)"}, {"map(a or b:c or d)", "map(a or b: c or d)"},
		{"flag(a)", "flag(a)"}, {"num(a)", "num(a)"}, {"pair(a,b)", "pair(a, b)"}, {"one(a)", "one(a)"}, {"size(a)", "size(a)"}, {"sum(a)", "sum(a)"}, {"number(a)", "number(a)"}, {"on(a)", "on(a)"}, {"keys(a)", "keys(a)"}, {"values(a)", "values(a)"}, {"first(a)", "first(a)"}, {"second(a)", "second(a)"}, {"conflict(a)", "conflict(a)"},
	} {
		expressions.prints(t, c[0], c[1])
	}
}

// TestLattices covers P17.1 for each construct of lattices.
func TestLattices(t *testing.T) {
	for _, c := range [][2]string{
		{" flag", "flag"}, {"register", "register"}, {"cart-1", "cart-1"}, {"set", "set"}, {"flat", "flat"}, {"set('x','y')", "set('x', 'y')"}, {"flat ( 'set' )", "flat('set')"},
		{"map set", "map set"}, {"map('b','a','b')set", "map('b', 'a', 'b') set"}, {"map map('x')l", "map map('x') l"}, {"max( -1 ,5)", "max(-1, 5)"}, {"min(9,-0)", "min(9, 0)"}, {"lex(flag,set)", "lex(flag, set)"},
		{"{a:flag}", "{a: flag}"}, {"{ b : map set , a : { c:l } }", "{b: map set, a: {c: l}}"},
		{"closed()", "closed()"}, {"closed('a')", "closed('a')"}, {"closed('a','b';'a','c'=>'b';=>'a')", "closed('a', 'b'; 'a', 'c' => 'b'; => 'a')"}, {"closed(;=>'a')", "closed(; => 'a')"}, {"closed(;'a'=>'b';'b'=>'a')", "closed(; 'a' => 'b'; 'b' => 'a')"}, {"closed('a';=>'a')", "closed('a'; => 'a')"},
	} {
		lattices.prints(t, c[0], c[1])
	}
}

// TestPrograms covers P17.1 for each declaration.
func TestPrograms(t *testing.T) {
	for _, c := range [][2]string{
		{" # nothing", ""}, {"object a:set('x','y');", "object a: set('x', 'y');\n"}, {"lattice l=map set;object a:l;", "lattice l = map set;\nobject a: l;\n"},
		{"update u()on o=s;", "update u() on o = s;\n"}, {"update u(a:int,b:bool,c:name,d:names)on o=s join(set(c));", "update u(a: int, b: bool, c: name, d: names) on o = s join set(c);\n"},
		{"query q()on o:int=1;", "query q() on o: int = 1;\n"}, {"query q(p:int)on o:bool=(a or b);", "query q(p: int) on o: bool = a or b;\n"}, {"query q() on o:name='a';query q() on o:names=(s);", "query q() on o: name = 'a';\nquery q() on o: names = s;\n"},
	} {
		programs.prints(t, c[0], c[1])
	}
}

// place is a place for an expression, for which % stands.
type place struct {
	text     string
	required int // the level that the place requires
	level    int // that of the expression which it is a part of
	opens    int // how many constructs that expression opens around the place
}

// places are all kinds of places for expressions.
func places() []place {
	return []place{
		{"% or x", 1, 1, 0}, {"x or %", 2, 1, 0}, {"% and x", 2, 2, 0}, {"x and %", 3, 2, 0}, {"not %", 3, 3, 1},
		{"% <= x", 5, 4, 0}, {"x <= %", 5, 4, 0}, {"% < x", 5, 4, 0}, {"x < %", 5, 4, 0}, {"% == x", 5, 4, 0}, {"x == %", 5, 4, 0}, {"% in x", 5, 4, 0}, {"x in %", 5, 4, 0}, {"% leq x", 5, 4, 0}, {"x leq %", 5, 4, 0},
		{"% join x", 5, 5, 0}, {"x join %", 6, 5, 0}, {"% + x", 6, 6, 0}, {"x + %", 7, 6, 0}, {"% - x", 6, 6, 0}, {"x - %", 7, 6, 0}, {"%.f", 7, 7, 0}, {"%[x]", 7, 7, 0}, {"x[%]", 0, 7, 1},
		{"if % then x else y", 0, 0, 1}, {"if x then % else y", 0, 0, 1}, {"if x then y else %", 0, 0, 1},
		{"set(%)", 0, 8, 1}, {"set(%, x)", 0, 8, 1}, {"write(x, y, %)", 0, 8, 1}, {"one(%)", 0, 8, 1}, {"rec(f: %)", 0, 8, 1}, {"rec(f: x, g: %, h: y)", 0, 8, 1}, {"map(%: x)", 0, 8, 1}, {"map(x: %)", 0, 8, 1}, {"map(x: y, %: z)", 0, 8, 1},
	}
}

// with returns the text of a place with a text in it.
func (p place) with(text string) string { return strings.Replace(p.text, "%", text, 1) }

// fill returns the tree of a place with a tree in it.
func (p place) fill(t *testing.T, l language, inner api.Node) api.Node {
	t.Helper()
	return fill(l.tree(t, p.with("hole")), inner)
}

// fill returns a tree with inner in place of the name hole.
func fill(n, inner api.Node) api.Node {
	if n.Text == "hole" {
		return inner
	}
	kids := n.Kids
	n.Kids = nil
	for _, kid := range kids {
		n.Kids = append(n.Kids, fill(kid, inner))
	}
	return n
}

// TestParentheses covers P17.1 for each expression at each place.
func TestParentheses(t *testing.T) {
	levels := map[string]int{
		"if a then b else c": 0, "a or b": 1, "a and b": 2, "not a": 3, "a <= b": 4, "a < b": 4, "a == b": 4, "a in b": 4, "a leq b": 4, "a join b": 5, "a + b": 6, "a - b": 6, "a.f": 7, "a[b]": 7,
		"-1": 8, "7": 8, "true": 8, "false": 8, "s": 8, "bottom": 8, "'a'": 8, "a": 8, "set(a, b)": 8, "rec(f: a)": 8, "map(a: b)": 8, "size(a)": 8,
	}
	for _, p := range places() {
		for text, level := range levels {
			want := text
			if level < p.required {
				want = "(" + text + ")"
			}
			expressions.prints(t, p.with("("+text+")"), p.with(want))
		}
	}
}

// TestNesting covers the limit of P17.1 for each token that opens a construct.
func TestNesting(t *testing.T) {
	for _, p := range places() {
		if p.level >= p.required && p.opens > 0 {
			checkNesting(t, expressions, p)
		}
	}
	for _, text := range []string{"map %", "map('a') %", "lex(%, set)", "lex(set, %)", "{a: %}", "{a: set, b: %, c: l}"} {
		checkNesting(t, lattices, place{text: text})
	}
	deep := func(l language, p place, count int) api.Node {
		n := l.tree(t, "x")
		for range count {
			n = p.fill(t, l, n)
		}
		return n
	}
	for _, text := range []string{"update u() on o = %;", "query q(p: int) on o: int = %;", "object a: set; query q() on o: int = 1; update u() on o = %; object a: set;", "lattice l = %;", "object o: %; object p: set;"} {
		whole := place{text: text}
		l, inner := expressions, place{text: "not %"}
		if !strings.Contains(text, " on ") {
			l, inner = lattices, place{text: "map %"}
		}
		if s, e := printer.Print(whole.fill(t, programs, deep(l, inner, 64))); e != api.OK || strings.Count(s, inner.text[:4]) != 64 {
			t.Errorf("64 times %q in %q: %q, %d", inner.text, text, s, e)
		}
		programs.fails(t, whole.fill(t, programs, deep(l, inner, 65)), api.ErrLimit)
	}
}

// checkNesting checks that a place can be filled by itself 64 times, and not more often.
func checkNesting(t *testing.T, l language, p place) {
	t.Helper()
	text, n := "x", l.tree(t, "x")
	for range 64 {
		text, n = p.with(text), p.fill(t, l, n)
	}
	if s, e := l.print(n); s != text || e != api.OK {
		t.Errorf("64 times %s: %q, %d", p.text, s, e)
	}
	l.fails(t, p.fill(t, l, n), api.ErrLimit)
	l.fails(t, p.fill(t, l, p.fill(t, l, n)), api.ErrLimit)
}

// TestTowers covers the limit of P17.1 for places of all kinds within each other.
func TestTowers(t *testing.T) {
	source, all := rand.New(rand.NewSource(1)), places()
	fits, limited := 0, 0
	for range 600 {
		text, level, open, n := "x", 8, 0, expressions.tree(t, "x")
		for range 60 + source.Intn(60) {
			p := all[source.Intn(len(all))]
			if level < p.required {
				text, open = "("+text+")", open+1
			}
			text, level, open, n = p.with(text), p.level, open+p.opens, p.fill(t, expressions, n)
		}
		if open > 64 {
			limited++
			expressions.fails(t, n, api.ErrLimit)
			continue
		}
		fits++
		if s, e := printer.Expression(n); s != text || e != api.OK {
			t.Fatalf("%q with %d open constructs: %q, %d", text, open, s, e)
		}
	}
	if fits < 100 || limited < 100 {
		t.Errorf("%d trees are printed, %d are not", fits, limited)
	}
}

// TestBeside covers the limit of P17.1: only constructs that are open at one place count.
func TestBeside(t *testing.T) {
	for _, text := range []string{"set()", "not a", "a[b]", "(a or b)", "not (a or b)", "set(a[b])"} {
		source := text + strings.Repeat(" and "+text, 200)
		expressions.prints(t, source, source)
	}
	source := "set(a" + strings.Repeat(", if a then b else c, map(a: b), not a", 200) + ")"
	expressions.prints(t, source, source)
	source = "a" + strings.Repeat("[b]", 200) + strings.Repeat(".f", 200)
	expressions.prints(t, source, source)
	source = "{a: map set" + strings.Repeat(", a: map set, b: lex(flag, {a: x})", 200) + "}"
	lattices.prints(t, source, source)
}

// TestLength covers the limit of P17.1 on the bytes that are printed.
func TestLength(t *testing.T) {
	for _, c := range []struct {
		l                    language
		begin, repeated, end string // % in begin stands for a name
	}{
		{expressions, "%", " + a", ""}, {expressions, "%", " - (b + c)", ""}, {expressions, "set(%", ", a", ")"}, {expressions, "%", ".abcd", ""}, {expressions, "'%'", " join s", ""},
		{lattices, "set('%'", ", 'a'", ")"}, {lattices, "{%: flag", ", a: a", "}"}, {lattices, "closed('%'", "; 'a' => 'a'", ")"},
		{programs, "object %: flag;\n", "object a: flag;\n", ""}, {programs, "update %() on o = s;\n", "lattice n = l;\n", ""},
	} {
		count := (65536 - len(c.begin) - len(c.end)) / len(c.repeated)
		source := place{text: c.begin + strings.Repeat(c.repeated, count) + c.end}
		short := c.l.tree(t, source.with("z"))
		for extra := range 4 {
			length := 65536 - len(source.text) + 1 + extra
			name := "z" + strings.Repeat("y", length-1)
			n := rename(short, "z", name)
			if extra > 0 {
				c.l.fails(t, n, api.ErrLimit)
				continue
			}
			if s, e := c.l.print(n); s != source.with(name) || len(s) != 65536 || e != api.OK {
				t.Errorf("%s%s: %d bytes, %d", c.begin, c.repeated, len(s), e)
			}
		}
	}
	many := programs.tree(t, strings.Repeat("object a: set;", 4000))
	many.Kids = append(many.Kids, many.Kids...)
	programs.fails(t, many, api.ErrLimit)
}

// rename returns a tree with another name in place of one.
func rename(n api.Node, from, to string) api.Node {
	if n.Text == from {
		n.Text = to
	}
	kids := n.Kids
	n.Kids = nil
	for _, kid := range kids {
		n.Kids = append(n.Kids, rename(kid, from, to))
	}
	return n
}

// TestGivenErrors covers the errors of P17.1 for nodes that are no trees.
func TestGivenErrors(t *testing.T) {
	x, quote, one, rule := leaf(api.NodeName, "x"), leaf(api.NodeQuote, "q"), api.Node{Kind: api.NodeInt, N: 1}, node(api.NodeRule, "", leaf(api.NodeQuote, "q"))
	set := leaf(api.NodeSet, "")
	for _, n := range []api.Node{
		{}, {Kind: -1}, {Kind: 53}, {Kind: api.NodeProgram}, set, leaf(api.NodeName, ""), leaf(api.NodeName, "set"), leaf(api.NodeName, "s"), leaf(api.NodeName, "A"), leaf(api.NodeName, "a234567890123456x"), node(api.NodeName, "x", x), {Kind: api.NodeName, Text: "x", N: 1},
		leaf(api.NodeQuote, ""), leaf(api.NodeQuote, "1"), leaf(api.NodeQuote, "a b"), node(api.NodeQuote, "a", x), leaf(api.NodeInt, "1"), node(api.NodeInt, "", x), {Kind: api.NodeInt, N: api.MaxNumber + 1}, {Kind: api.NodeInt, N: -api.MaxNumber - 1}, {Kind: api.NodeInt, N: math.MinInt64}, {Kind: api.NodeInt, N: math.MaxInt64},
		{Kind: api.NodeTrue, N: 1}, leaf(api.NodeFalse, "false"), node(api.NodeState, "", x), leaf(api.NodeState, "s"), node(api.NodeBottom, "", x), leaf(api.NodeIf, ""), node(api.NodeIf, "", x, x), node(api.NodeIf, "", x, x, x, x), node(api.NodeIf, "if", x, x, x),
		node(api.NodePlus, "", x), node(api.NodePlus, "", x, x, x), node(api.NodePlus, "+", x, x), {Kind: api.NodePlus, N: 1, Kids: []api.Node{x, x}}, node(api.NodeJoin, "", x, set), node(api.NodeNot, ""), node(api.NodeNot, "", x, x), node(api.NodeNot, "x", x),
		node(api.NodeField, "", x), node(api.NodeField, "set", x), node(api.NodeField, "a"), node(api.NodeField, "a", x, x), node(api.NodeIndex, "", x), node(api.NodeIndex, "a", x, x), node(api.NodeIndex, "", x, x, x),
		leaf(api.NodeCall, ""), leaf(api.NodeCall, "f"), leaf(api.NodeCall, "lex"), leaf(api.NodeCall, "max"), {Kind: api.NodeCall, Text: "set", N: 1}, node(api.NodeCall, "set", set), node(api.NodeCall, "set", node(api.NodeEntry, "", x, x)), node(api.NodeCall, "rec", x), node(api.NodeCall, "map", x), node(api.NodeEntry, "a", x), node(api.NodeEntry, "", x, x),
		node(api.NodeCall, "rec", node(api.NodeEntry, "", x)), node(api.NodeCall, "rec", node(api.NodeEntry, "if", x)), node(api.NodeCall, "rec", node(api.NodeEntry, "a")), node(api.NodeCall, "rec", node(api.NodeEntry, "a", x, x)), node(api.NodeCall, "rec", node(api.NodeEntry, "", x, x)), node(api.NodeCall, "rec", api.Node{Kind: api.NodeEntry, Text: "a", N: 1, Kids: []api.Node{x}}),
		node(api.NodeCall, "map", node(api.NodeEntry, "a", x, x)), node(api.NodeCall, "map", node(api.NodeEntry, "", x)), node(api.NodeCall, "map", node(api.NodeEntry, "", x, x, x)), node(api.NodeCall, "map", node(api.NodeEntry, "a", x)), node(api.NodeCall, "map", api.Node{Kind: api.NodeEntry, N: 1, Kids: []api.Node{x, x}}),
	} {
		expressions.fails(t, n, api.ErrArgument)
		programs.fails(t, node(api.NodeProgram, "", node(api.NodeUpdate, "u", x, n)), api.ErrArgument)
		expressions.fails(t, node(api.NodeCall, "pair", x, n), api.ErrArgument)
	}
	for _, n := range []api.Node{
		{}, x, {Kind: 23}, {Kind: api.NodeProgram}, leaf(api.NodeFlag, "flag"), node(api.NodeFlag, "", set), {Kind: api.NodeRegister, N: 1}, node(api.NodeRegister, "", quote), leaf(api.NodeNamed, ""), leaf(api.NodeNamed, "set"), node(api.NodeNamed, "l", set), {Kind: api.NodeNamed, Text: "l", N: 2},
		node(api.NodeSet, "", x), node(api.NodeSet, "", quote, set), node(api.NodeSet, "a", quote), node(api.NodeFlat, "", one), node(api.NodeSet, "", leaf(api.NodeQuote, "Q")), leaf(api.NodeMap, ""), node(api.NodeMap, "", quote), node(api.NodeMap, "", set, set), node(api.NodeMap, "", set, quote), node(api.NodeMap, "a", set),
		node(api.NodeMax, "", one), node(api.NodeMax, "", one, one, one), node(api.NodeMin, "", one, quote), node(api.NodeMin, "min", one, one), node(api.NodeMax, "", one, api.Node{Kind: api.NodeInt, N: api.MaxNumber + 1}), node(api.NodeMax, "", node(api.NodeInt, "", one), one), {Kind: api.NodeMin, N: 1, Kids: []api.Node{one, one}},
		node(api.NodeLex, "", set), node(api.NodeLex, "", set, set, set), node(api.NodeLex, "", set, x), leaf(api.NodeProduct, ""), node(api.NodeProduct, "", set), node(api.NodeProduct, "", leaf(api.NodeMember, "a")), node(api.NodeProduct, "", node(api.NodeMember, "", set)), node(api.NodeProduct, "", node(api.NodeMember, "map", set)), node(api.NodeProduct, "", node(api.NodeMember, "a", set, set)), node(api.NodeProduct, "", node(api.NodeMember, "a", x)), node(api.NodeMember, "a", set),
		node(api.NodeClosed, "", x), node(api.NodeClosed, "", rule, quote), node(api.NodeClosed, "", set), node(api.NodeClosed, "", quote, leaf(api.NodeRule, "")), node(api.NodeClosed, "", node(api.NodeRule, "", x)), node(api.NodeClosed, "", node(api.NodeRule, "a", quote)), node(api.NodeClosed, "a", quote), rule, {Kind: api.NodeClosed, N: 3},
	} {
		lattices.fails(t, n, api.ErrArgument)
		lattices.fails(t, node(api.NodeLex, "", set, n), api.ErrArgument)
		programs.fails(t, node(api.NodeProgram, "", node(api.NodeObject, "o", n)), api.ErrArgument)
	}
	param := api.Node{Kind: api.NodeParam, Text: "p", N: 1}
	for _, n := range []api.Node{
		{}, x, set, {Kind: 6, Text: "p", N: 1}, {Kind: 7}, node(api.NodeLattice, "", set), node(api.NodeLattice, "set", set), node(api.NodeLattice, "l"), node(api.NodeLattice, "l", set, set), node(api.NodeLattice, "l", x), {Kind: api.NodeLattice, Text: "l", N: 1, Kids: []api.Node{set}}, node(api.NodeObject, "A", set), node(api.NodeObject, "o", set, set),
		leaf(api.NodeUpdate, "u"), node(api.NodeUpdate, "u", x), node(api.NodeUpdate, "u", param, x), node(api.NodeUpdate, "u", x, x, x), node(api.NodeUpdate, "u", x, param, x), node(api.NodeUpdate, "", x, x), node(api.NodeUpdate, "on", x, x), node(api.NodeUpdate, "u", quote, x), node(api.NodeUpdate, "u", leaf(api.NodeName, "set"), x), node(api.NodeUpdate, "u", leaf(api.NodeState, ""), x), node(api.NodeUpdate, "u", x, set), {Kind: api.NodeUpdate, Text: "u", N: 1, Kids: []api.Node{x, x}},
		node(api.NodeQuery, "q", x, x), {Kind: api.NodeQuery, Text: "q", N: 5, Kids: []api.Node{x, x}}, {Kind: api.NodeQuery, Text: "q", N: -1, Kids: []api.Node{x, x}}, {Kind: api.NodeQuery, Text: "int", N: 1, Kids: []api.Node{x, x}}, {Kind: api.NodeQuery, Text: "q", N: 1, Kids: []api.Node{x}},
		node(api.NodeUpdate, "u", leaf(api.NodeParam, "p"), x, x), node(api.NodeUpdate, "u", api.Node{Kind: api.NodeParam, Text: "p", N: 5}, x, x), node(api.NodeUpdate, "u", api.Node{Kind: api.NodeParam, Text: "s", N: 1}, x, x), node(api.NodeUpdate, "u", api.Node{Kind: api.NodeParam, Text: "p", N: 1, Kids: []api.Node{x}}, x, x), node(api.NodeUpdate, "u", node(api.NodeName, "x", x), x),
	} {
		programs.fails(t, node(api.NodeProgram, "", n), api.ErrArgument)
		programs.fails(t, node(api.NodeProgram, "", node(api.NodeObject, "o", set), n), api.ErrArgument)
		programs.fails(t, n, api.ErrArgument)
	}
	for _, n := range []api.Node{{Kind: api.NodeProgram, N: 1}, leaf(api.NodeProgram, "p"), node(api.NodeProgram, "", leaf(api.NodeProgram, ""))} {
		programs.fails(t, n, api.ErrArgument)
	}
}

// TestArgumentBeforeLimit covers P17.1 and P1: of the two errors the first one of the table is returned.
func TestArgumentBeforeLimit(t *testing.T) {
	for _, wrong := range []api.Node{{}, leaf(api.NodeName, "set"), {Kind: api.NodeInt, N: api.MaxNumber + 1}} {
		deep, long := wrong, leaf(api.NodeName, "x")
		for range 70 {
			deep = node(api.NodeNot, "", deep)
		}
		for range 20000 {
			long = node(api.NodePlus, "", long, leaf(api.NodeName, "x"))
		}
		expressions.fails(t, deep, api.ErrArgument)
		expressions.fails(t, long, api.ErrLimit)
		expressions.fails(t, node(api.NodeJoin, "", long, wrong), api.ErrArgument)
		expressions.fails(t, node(api.NodeJoin, "", wrong, long), api.ErrArgument)
		programs.fails(t, node(api.NodeProgram, "", node(api.NodeUpdate, "u", leaf(api.NodeName, "o"), long), node(api.NodeUpdate, "u", leaf(api.NodeName, "o"), wrong)), api.ErrArgument)
	}
	lattice := api.Node{}
	for range 70 {
		lattice = node(api.NodeMap, "", lattice)
	}
	lattices.fails(t, lattice, api.ErrArgument)
}

// node returns a node.
func node(kind int, text string, kids ...api.Node) api.Node {
	return api.Node{Kind: kind, Text: text, Kids: kids}
}

// leaf returns a node without kids.
func leaf(kind int, text string) api.Node { return api.Node{Kind: kind, Text: text} }
