package parser_test

import (
	"slices"
	"strings"
	"testing"

	"plexus/api"
	"plexus/lexer"
	"plexus/parser"
)

// parse is one of the functions that return trees.
type parse func(source string) (api.Node, api.Fault)

// TestExpressions covers P16.1 for each construct of expressions, with its fields and offsets.
func TestExpressions(t *testing.T) {
	compare(t, parser.Expression, map[string]string{
		"a - 1 + s":               "plus@6(minus@2(name:a@0 int=1@4) state@8)",
		"a-1":                     "name:a-1@0",
		"not a < b":               "not@0(less@6(name:a@4 name:b@8))",
		"map('k': 1)":             "call:map@0(entry@4(quote:k@4 int=1@9))",
		" s":                      "state@1",
		"true":                    "true@0",
		"false":                   "false@0",
		"bottom":                  "bottom@0",
		"'if'":                    "quote:if@0",
		"x":                       "name:x@0",
		"0":                       "int@0",
		"1000000000000000":        "int=1000000000000000@0",
		"-7":                      "int=-7@0",
		"- 1000000000000000":      "int=-1000000000000000@0",
		"-0":                      "int@0",
		"- # x\n 5":               "int=-5@0",
		"a - -1":                  "minus@2(name:a@0 int=-1@4)",
		"1-1":                     "minus@1(int=1@0 int=1@2)",
		"-1-1":                    "minus@2(int=-1@0 int=1@3)",
		"a -1":                    "minus@2(name:a@0 int=1@3)",
		"-1.a":                    "field:a@2(int=-1@0)",
		"(s)":                     "state@1",
		"((s))":                   "state@2",
		"if a then b else c":      "if@0(name:a@3 name:b@10 name:c@17)",
		"if a then b else c or d": "if@0(name:a@3 name:b@10 or@19(name:c@17 name:d@22))",
		"if if a then b else c then d else if e then f else g": "if@0(if@3(name:a@6 name:b@13 name:c@20) name:d@27 if@34(name:e@37 name:f@44 name:g@51))",
		"(if a then b else c) + 1":                             "plus@21(if@1(name:a@4 name:b@11 name:c@18) int=1@23)",
		"a or b or c":                                          "or@7(or@2(name:a@0 name:b@5) name:c@10)",
		"a or b and c":                                         "or@2(name:a@0 and@7(name:b@5 name:c@11))",
		"a and b or c":                                         "or@8(and@2(name:a@0 name:b@6) name:c@11)",
		"a and b and c":                                        "and@8(and@2(name:a@0 name:b@6) name:c@12)",
		"not not a":                                            "not@0(not@4(name:a@8))",
		"not a and not b":                                      "and@6(not@0(name:a@4) not@10(name:b@14))",
		"a <= b":                                               "lesseq@2(name:a@0 name:b@5)",
		"a<b":                                                  "less@1(name:a@0 name:b@2)",
		"a == b":                                               "equal@2(name:a@0 name:b@5)",
		"a in b":                                               "in@2(name:a@0 name:b@5)",
		"a leq b":                                              "leq@2(name:a@0 name:b@6)",
		"(a < b) < c":                                          "less@8(less@3(name:a@1 name:b@5) name:c@10)",
		"a < (b < c)":                                          "less@2(name:a@0 less@7(name:b@5 name:c@9))",
		"a join b join c":                                      "join@9(join@2(name:a@0 name:b@7) name:c@14)",
		"a join (b join c)":                                    "join@2(name:a@0 join@10(name:b@8 name:c@15))",
		"a join b leq c join d":                                "leq@9(join@2(name:a@0 name:b@7) join@15(name:c@13 name:d@20))",
		"a + b join c - d":                                     "join@6(plus@2(name:a@0 name:b@4) minus@13(name:c@11 name:d@15))",
		"a - b + c":                                            "plus@6(minus@2(name:a@0 name:b@4) name:c@8)",
		"a + (b - c)":                                          "plus@2(name:a@0 minus@7(name:b@5 name:c@9))",
		"a.b.c":                                                "field:c@3(field:b@1(name:a@0))",
		"s[a][b].c":                                            "field:c@7(index@4(index@1(state@0 name:a@2) name:b@5))",
		"s[a or b]":                                            "index@1(state@0 or@4(name:a@2 name:b@7))",
		"(a + b).c":                                            "field:c@7(plus@3(name:a@1 name:b@5))",
		"a . b [ c ]":                                          "index@6(field:b@2(name:a@0) name:c@8)",
		"a + b.c":                                              "plus@2(name:a@0 field:c@5(name:b@4))",
		"not s.a":                                              "not@0(field:a@5(state@4))",
		"set()":                                                "call:set@0",
		"map ( )":                                              "call:map@0",
		"rec()":                                                "call:rec@0",
		"write(s, 1, 'x')":                                     "call:write@0(state@6 int=1@9 quote:x@12)",
		"pair(a or b, if a then b else c)":                     "call:pair@0(or@7(name:a@5 name:b@10) if@13(name:a@16 name:b@23 name:c@30))",
		"size(s.a[k]) + number(s.c)":                           "plus@13(call:size@0(index@8(field:a@6(state@5) name:k@9)) call:number@15(field:c@23(state@22)))",
		"rec(c: num(1), a: s)":                                 "call:rec@0(entry:c@4(call:num@7(int=1@11)) entry:a@15(state@18))",
		"map((a): b, x + y: z)":                                "call:map@0(entry@4(name:a@5 name:b@9) entry@12(plus@14(name:x@12 name:y@16) name:z@19))",
		"map(((a)) + 1 : rec(x: map(y: s)))":                   "call:map@0(entry@4(plus@10(name:a@6 int=1@12) call:rec@16(entry:x@20(call:map@23(entry@27(name:y@27 state@30))))))",
		"set(a).b[set(1)]":                                     "index@8(field:b@6(call:set@0(name:a@4)) call:set@9(int=1@13))",
	})
	for _, f := range []string{"flag", "num", "set", "map", "rec", "pair", "one", "write", "size", "sum", "number", "on", "keys", "values", "first", "second", "conflict"} {
		if n, fault := parser.Expression(f + "()"); fault != (api.Fault{}) || dump(n) != "call:"+f+"@0" {
			t.Errorf("%s(): %s, %v", f, dump(n), fault)
		}
		if _, fault := parser.Expression(f); fault != (api.Fault{Code: api.ErrSyntax, At: len(f)}) {
			t.Errorf("%s: %v", f, fault)
		}
	}
}

// TestLattices covers P16.1 for each construct of lattices, with its fields and offsets.
func TestLattices(t *testing.T) {
	compare(t, parser.Lattice, map[string]string{
		"{ n: max(-1, 5) }":           "product@0(member:n@2(max@5(int=-1@9 int=5@13)))",
		"flag":                        "flag@0",
		" register ":                  "register@1",
		"cart-1":                      "named:cart-1@0",
		"set":                         "set@0",
		"flat":                        "flat@0",
		"set('a')":                    "set@0(quote:a@4)",
		"set('b', 'a','b')":           "set@0(quote:b@4 quote:a@9 quote:b@13)",
		"flat ( 'set' )":              "flat@0(quote:set@7)",
		"map set":                     "map@0(set@4)",
		"map('a') set('b')":           "map@0(quote:a@4 set@9(quote:b@13))",
		"map map('x','y') l":          "map@0(map@4(quote:x@8 quote:y@12 named:l@17))",
		"max(0, 9)":                   "max@0(int@4 int=9@7)",
		"min(9,-0)":                   "min@0(int=9@4 int@6)",
		"lex(max(0, 3), set)":         "lex@0(max@4(int@8 int=3@11) set@15)",
		"lex(lex(a, b), {c: d})":      "lex@0(lex@4(named:a@8 named:b@11) product@15(member:c@16(named:d@19)))",
		"{a: flag, b: {a: map flat}}": "product@0(member:a@1(flag@4) member:b@10(product@13(member:a@14(map@17(flat@21)))))",
		"closed()":                    "closed@0",
		"closed('a')":                 "closed@0(quote:a@7)",
		"closed('a', 'b'; 'a', 'c' => 'b'; => 'a')":   "closed@0(quote:a@7 quote:b@12 rule@17(quote:a@17 quote:c@22 quote:b@29) rule@34(quote:a@37))",
		"closed(; => 'a')":                            "closed@0(rule@9(quote:a@12))",
		"closed(;'a'=>'a';'b'=>'c')":                  "closed@0(rule@8(quote:a@8 quote:a@13) rule@17(quote:b@17 quote:c@22))",
		"map closed('a'; => 'a')":                     "map@0(closed@4(quote:a@11 rule@16(quote:a@19)))",
		"{set-1: set, s1: register, n: flag, m: set}": "product@0(member:set-1@1(set@8) member:s1@13(register@17) member:n@27(flag@30) member:m@36(set@39))",
	})
}

// TestPrograms covers P16.1 for each declaration, with its fields and offsets.
func TestPrograms(t *testing.T) {
	compare(t, parser.Parse, map[string]string{
		"":                           "program@0",
		" # nothing\n ":              "program@0",
		"lattice l = set;":           "program@0(lattice:l@0(set@12))",
		" object cart-1 : set; # my": "program@0(object:cart-1@1(set@17))",
		"object a: l;\nlattice l=flag;object a:map l;":                     "program@0(object:a@0(named:l@10) lattice:l@13(flag@23) object:a@28(map@37(named:l@41)))",
		"update u() on o = s;":                                             "program@0(update:u@0(name:o@14 state@18))",
		"update u(x: name) on o = s join set(x);":                          "program@0(update:u@0(param:x=3@9 name:o@21 join@27(state@25 call:set@32(name:x@36))))",
		"update u(a: int, b: bool,c:name , d : names) on o =1;":            "program@0(update:u@0(param:a=1@9 param:b=2@17 param:c=3@25 param:d=4@34 name:o@48 int=1@51))",
		"query q() on o: int = size(s);":                                   "program@0(query:q=1@0(name:o@13 call:size@22(state@27)))",
		"query q(k: name) on o: bool = k in keys(s);":                      "program@0(query:q=2@0(param:k=3@8 name:o@20 in@32(name:k@30 call:keys@35(state@40))))",
		"query q() on o:name='a';":                                         "program@0(query:q=3@0(name:o@13 quote:a@20))",
		"query q() on q: names = s;":                                       "program@0(query:q=4@0(name:q@13 state@24))",
		"update u(u: int, u: int) on u = u;":                               "program@0(update:u@0(param:u=1@9 param:u=1@17 name:u@28 name:u@32))",
		"update u(k: name, x: name) on o = s join rec(a: map(k: set(x)));": "program@0(update:u@0(param:k=3@9 param:x=3@18 name:o@30 join@36(state@34 call:rec@41(entry:a@45(call:map@48(entry@52(name:k@52 call:set@55(name:x@59))))))))",
	})
}

// compare checks the trees of some sources.
func compare(t *testing.T, parse parse, trees map[string]string) {
	t.Helper()
	for source, want := range trees {
		n, fault := parse(source)
		if fault != (api.Fault{}) || dump(n) != want {
			t.Errorf("%q: %s, %v; not %s", source, dump(n), fault, want)
		}
	}
}

// TestFaults covers P16.1 for sources that the grammar does not accept. In each of them, ! stands in front of the first token with which no source can go on.
func TestFaults(t *testing.T) {
	for _, c := range []struct {
		parse   parse
		sources []string
	}{
		{parser.Expression, []string{
			"!", " # x\n!", "a < b !< c", "a in b !in c", "a == b !leq c", "map('k'!)", "map('k': 1, 2!)", "map('k': 1 !: 2)", "map(!:", "map(a: !)", "map(a: b,!)", "rec(!1)", "rec(!'a': 1)", "rec(!set: 1)", "rec(!s: 1)", "rec(a!)", "rec(a !1)", "rec(a: 1, !)", "rec(a: 1 !b: 2",
			"a !b", "a !1", "a !'b'", "s !s", "s !(", "x!(1)", "s!:", "s !;", "s !,", "s !)", "s !]", "s !}", "s!{", "s !=", "s !=> s", "(s!", "(!)", "(s !, s)", "(s!]", "s[!]", "s[a!", "s[a !)", "s[a !, b]", "s.!", "s.!1", "s.!set", "s.!s", "s.!'a'", "s.!(", "a + !", "a + !+ b", "!+ a", "a + !not b", "a + !if b", "a < !not b", "a join !if b", "a and !if", "a or !if b then", "not !if",
			"not !", "not !)", "not !and", "a or !or b", "a and !or b", "a !not b", "!or a", "!join s", "!in", "!leq", "a in !in", "-!", "-!a", "-!-1", "-!(1)", "1 - -!-", "a - !)", "1.!5", "if !then", "if a !else", "if a then !else", "if a then b!", "if a then b !then", "if a then b else !", "if a then b else c !else d", "if a!, b", "if a !b", "!then", "!else",
			"set!", "set !a", "set(!", "set(!,", "set(a!", "set(a !b)", "set(a,!)", "set(a, !,", "set(a!: b)", "set(a !; b)", "write(1, 2, 3!: 4)", "set(a)!(", "set!.a", "first!+", "!lex", "!register", "!max(1, 2)", "!min", "!closed()", "!flat", "!int", "!object", "!update", "!query", "!lattice", "!name", "!names", "!bool", "!{", "!}", "![", "!]", "!=", "!==", "!<=", "!.", "!,", "!;", "!=>", "!:", "!)",
		}},
		{parser.Lattice, []string{
			"!", "!1", "!'a'", "!s", "!size", "!(set)", "!true", "!int", "!object", "flag !flag", "flag!(", "register!(", "l!(", "l!.a", "l !join l", "set(!)", "set(!a)", "set(!1)", "set(!,", "set('a'!", "set('a' !'b')", "set('a',!)", "set('a' !; 'b')", "set('a')!(", "set('a'!: 'b')", "set !'a'", "set!,", "set !set", "flat(!", "flat(!)", "flat!{",
			"map!", "map(!)", "map('a'!", "map('a')!", "map('a') !'b'", "map('a')!(", "map set !set", "map!)", "map(!set)", "max!", "max !1", "max(!)", "max(!, 1)", "max(!'a'", "max(1!)", "max(1 !2)", "max(1,!)", "max(1, 2!", "max(1, 2!, 3)", "max(-!-1", "max(-!a", "max(!a, 1)", "max(!+1", "max(1, 2)!(", "min(1!;", "max(1 !- 2, 3)",
			"lex!", "lex !set", "lex(!)", "lex(set!)", "lex(set,!)", "lex(set, set!", "lex(set, set!, set)", "lex(!1", "lex(set !; set)", "{!", "{!}", "{!1", "{!set: set}", "{!s: set}", "{!'a': set}", "{a!}", "{a !set}", "{a: !}", "{a: set!", "{a: set,!}", "{a: set !b: set}", "{a: set !)", "{a: set !; b", "{a: set}!{", "{a !, b: set}", "{a: !1}",
			"closed!", "closed !'a'", "closed(!", "closed(!a", "closed(!,", "closed(!=>", "closed('a'!", "closed('a' !'b'", "closed('a',!)", "closed('a', !;", "closed('a' !=> 'b')", "closed(;!)", "closed(; !;", "closed(; 'a'!)", "closed(; 'a' !;", "closed(; 'a' !'b'", "closed(; 'a', !=>", "closed(; !, 'a'", "closed(; =>!)", "closed(; => !=>", "closed(; => 'a' !, 'b')", "closed(; => 'a' !=> 'b'", "closed(; => 'a' !'b'", "closed(; => 'a';!)", "closed(; => 'a'!", "closed()!(",
		}},
		{parser.Parse, []string{
			"!set", "!;", "!a", "!s", "!1", "!'a'", "!query-1", "!if", "object a : set!", "object!", "object !set: set;", "object !1", "object !'a'", "object !s : set;", "object a!", "object a !set", "object a != set;", "object a :!", "object a : !;", "object a : !1", "object a : set!,", "object a : set !object", "object a : set;!;", "object a : set; !a", "object a: set('a'!;",
			"lattice!", "lattice !lattice", "lattice l!", "lattice l !: set;", "lattice l !== set", "lattice l =!", "lattice l = !s;", "lattice l = set!", "lattice l = set !)", "lattice l = set!: set", "update!", "update u!", "update u !on", "update u(!", "update u(!,", "update u(!1", "update u(!set: int", "update u(!s: int", "update u(!int", "update u(x!", "update u(x!)", "update u(x !int)", "update u(x: !)", "update u(x: !a)", "update u(x: !set)", "update u(x: int!", "update u(x: int !y: int", "update u(x: int,!)", "update u(x: int !; y",
			"update u()!", "update u() != s", "update u()!: int", "update u() on!", "update u() on !on", "update u() on !s", "update u() on o!", "update u() on o!: int = s", "update u() on o!;", "update u() on o =!", "update u() on o = !;", "update u() on o = s!", "update u() on o = s !, s", "update u() on o = s!)", "update u() on o = set!;", "query q()!: int on o = s;", "query q() on o!", "query q() on o != s;", "query q() on o:!", "query q() on o: != s;", "query q() on o: !set = s;", "query q() on o: !flag", "query q() on o: !a = s;", "query q() on o: int!", "query q() on o: int !s", "query q() on o: int = !", "query q() on o: int = s!", "query q() on o: int = s !query", "query q1 !q", "!=",
		}},
	} {
		for _, marked := range c.sources {
			checkMarked(t, c.parse, marked)
		}
	}
}

// checkMarked checks a source with a mark in front of its first token with which no source can go on, or at its end.
func checkMarked(t *testing.T, parse parse, marked string) {
	t.Helper()
	before, behind, found := strings.Cut(marked, "!")
	source := before + behind
	want := api.Fault{Code: api.ErrSyntax, At: len(before)}
	if !found {
		t.Errorf("%q has no mark", marked)
	}
	if n, fault := parse(source); fault != want || dump(n) != dump(api.Node{}) {
		t.Errorf("%q: %s, %v; not %v", source, dump(n), fault, want)
	}
}

// TestLexerFaults covers P16.1: a fault of the lexer counts, wherever it is.
func TestLexerFaults(t *testing.T) {
	for _, c := range []struct {
		source string
		want   api.Fault
	}{
		{"007", api.Fault{Code: api.ErrSyntax}}, {") A", api.Fault{Code: api.ErrSyntax, At: 2}}, {") ) ''", api.Fault{Code: api.ErrName, At: 4}}, {"a b 1000000000000001", api.Fault{Code: api.ErrRange, At: 4}}, {"abcdefghijklmnopq", api.Fault{Code: api.ErrName}}, {"s.'x", api.Fault{Code: api.ErrSyntax, At: 2}}, {"s > s", api.Fault{Code: api.ErrSyntax, At: 2}},
		{strings.Repeat("(", 70) + "!", api.Fault{Code: api.ErrSyntax, At: 70}}, {"-1000000000000001", api.Fault{Code: api.ErrRange, At: 1}},
		{"; A" + strings.Repeat(" ", lexer.MaxSource), api.Fault{Code: api.ErrLimit, At: lexer.MaxSource}}, {strings.Repeat(" ", lexer.MaxSource+1), api.Fault{Code: api.ErrLimit, At: lexer.MaxSource}},
	} {
		for _, parse := range []parse{parser.Parse, parser.Expression, parser.Lattice} {
			if n, fault := parse(c.source); fault != c.want || dump(n) != dump(api.Node{}) {
				t.Errorf("%.80q: %s, %v; not %v", c.source, dump(n), fault, c.want)
			}
		}
	}
}

// TestLongSources covers P16.1 and P16.3 for trees as deep and as wide as sources allow.
func TestLongSources(t *testing.T) {
	const half = lexer.MaxSource / 2
	for _, c := range []struct {
		parse  parse
		source string
		size   int
	}{
		{parser.Expression, "s" + strings.Repeat("+s", half-1), 2*half - 1}, {parser.Expression, "s" + strings.Repeat(".a", half-1), half}, {parser.Expression, "s" + strings.Repeat("[s]", 20000), 40001}, {parser.Expression, "s" + strings.Repeat(" or s", 13000), 26001},
		{parser.Expression, "set(s" + strings.Repeat(",s", 30000) + ")", 30002}, {parser.Expression, "s" + strings.Repeat(" and not s", 6000), 18001}, {parser.Lattice, "{a:l" + strings.Repeat(",a:l", 16000) + "}", 32003}, {parser.Parse, strings.Repeat("object a:l;", 5957), 2*5957 + 1}, {parser.Lattice, "closed(" + strings.Repeat(";=>'a'", 10000) + ")", 20001},
	} {
		n, fault := c.parse(c.source)
		again, _ := c.parse("\n" + c.source)
		if len(c.source) >= lexer.MaxSource {
			again = n
		}
		if fault != (api.Fault{}) || parser.Size(n) != c.size || !parser.Same(n, again) {
			t.Errorf("%.20q: %d nodes, %v", c.source, parser.Size(n), fault)
		}
	}
	if _, fault := parser.Expression("s" + strings.Repeat("+s", half-1) + "+"); fault != (api.Fault{Code: api.ErrSyntax, At: lexer.MaxSource}) {
		t.Errorf("a sum without its end: %v", fault)
	}
}

// TestNesting covers P16.1: for each construct that opens, how many of them a source may contain, and where the fault is.
func TestNesting(t *testing.T) {
	for _, c := range []struct {
		parse                 parse
		before, inner, behind string
		at                    int // the offset in before of the token that opens
	}{
		{parser.Expression, "(", "s", ")", 0}, {parser.Expression, "set(", "s", ")", 3}, {parser.Expression, "rec(a: ", "s", ")", 3}, {parser.Expression, "map('a': ", "s", ")", 3}, {parser.Expression, "map(", "s", ": s)", 3}, {parser.Expression, "write(1, 2, ", "s", ")", 5}, {parser.Expression, "s[", "s", "]", 1}, {parser.Expression, "s.a[", "s", "]", 3}, {parser.Expression, "not ", "s", "", 0},
		{parser.Expression, "if s then s else ", "s", "", 0}, {parser.Expression, "if ", "s", " then s else s", 0}, {parser.Expression, "if s then ", "s", " else s", 0}, {parser.Expression, "1 + (", "s", ")", 4},
		{parser.Lattice, "map ", "set", "", 0}, {parser.Lattice, "map('a') ", "l", "", 0}, {parser.Lattice, "lex(", "flag", ", set)", 0}, {parser.Lattice, "lex(l, ", "set('a')", ")", 0}, {parser.Lattice, "{a: ", "max(1, 2)", "}", 0}, {parser.Lattice, "{b: set, a: ", "closed('a'; => 'a')", ", c: flag}", 0},
	} {
		for _, count := range []int{1, 63, 64, 65, 66, 200} {
			source := strings.Repeat(c.before, count) + c.inner + strings.Repeat(c.behind, count)
			want := api.Fault{}
			if count > parser.MaxNesting {
				want = api.Fault{Code: api.ErrLimit, At: parser.MaxNesting*len(c.before) + c.at}
			}
			n, fault := c.parse(source)
			if fault != want || want.Code != api.OK && dump(n) != dump(api.Node{}) {
				t.Errorf("%d times %q: %v, not %v", count, c.before, fault, want)
			}
			// What stands behind the fault has no influence, and a lacking end comes later.
			if _, fault := c.parse(strings.Repeat(c.before, count)); want.Code != api.OK && fault != want {
				t.Errorf("only %d times %q: %v, not %v", count, c.before, fault, want)
			}
		}
	}
}

// TestNestingEnds covers P16.1: a construct is open up to its end and no further, and what does not open anything does not count.
func TestNestingEnds(t *testing.T) {
	full, closing := strings.Repeat("(", 63), strings.Repeat(")", 63)
	for s, fits := range map[string]bool{
		"(s) + (s)": true, "s[s][s][s]": true, "set(s) join set() join set(s)": true, "not s and not s or not s": true, "if s then s else s": true, "(s).a + 1": true, "s == s and not s == s and not s": true, "size(s)[s]": true, "(s) in keys(s)": true, "s" + strings.Repeat(" and not s", 100): true, "s" + strings.Repeat("[s]", 100): true, "s" + strings.Repeat("+(s)", 100): true,
		"(not s)": false, "not not s": false, "not (s)": false, "not s[s]": false, "not s < (s)": false, "if s then s else (s)": false, "if (s) then s else s": false, "(if s then s else s)": false, "if s then s else s[s]": false, "if s then s else 1 + (s)": false, "if s then s else if s then s else s": false, "map(s: (s))": false, "rec(a: s, b: set())": false, "s[s[s]]": false,
	} {
		_, fault := parser.Expression(full + s + closing)
		if (fault == api.Fault{}) != fits || !fits && (fault.Code != api.ErrLimit || fault.At <= 63) {
			t.Errorf("%.80s: %v", s, fault)
		}
	}
	maps := strings.Repeat("map ", 63)
	for s, fits := range map[string]bool{"set('a')": true, "closed(; => 'a')": true, "max(1, 2)": true, "lex(set, set('a'))": true, "{a: max(1, 2), b: closed()}": true, "map set": true, "map map set": false, "lex({a: set}, set)": false, "lex(set, map set)": false, "{a: lex(set, set)}": false, "{a: set, b: {c: set}}": false} {
		if _, fault := parser.Lattice(maps + s); (fault == api.Fault{}) != fits || !fits && fault.Code != api.ErrLimit {
			t.Errorf("%s: %v", s, fault)
		}
	}
	for _, source := range []string{"object a: " + maps + "map set; object b: " + maps + "{a: set};", "update u(x: int) on a = (" + full + "1" + closing + ");", "query q(x: int) on a: int = set(" + full + "1" + closing + "); query q(x: int) on a: int = not " + full + "1" + closing + ";"} {
		if _, fault := parser.Parse(source); fault != (api.Fault{}) {
			t.Errorf("%s: %v", source, fault)
		}
	}
	// A token that cannot stand here opens nothing.
	for _, c := range []struct {
		source string
		want   api.Fault
	}{
		{"(" + full + "s(", api.Fault{Code: api.ErrSyntax, At: 65}}, {"(" + full + "1 + not s", api.Fault{Code: api.ErrSyntax, At: 68}}, {"(" + full + "s if", api.Fault{Code: api.ErrSyntax, At: 66}}, {"(" + full + "[", api.Fault{Code: api.ErrSyntax, At: 64}}, {"(" + full + "lex(", api.Fault{Code: api.ErrSyntax, At: 64}}, {"(" + full + "{", api.Fault{Code: api.ErrSyntax, At: 64}},
		{"(" + full + "set", api.Fault{Code: api.ErrSyntax, At: 67}}, {"(" + full + "set(", api.Fault{Code: api.ErrLimit, At: 67}}, {"(" + full + "set[", api.Fault{Code: api.ErrSyntax, At: 67}}, {"(" + full + "s[", api.Fault{Code: api.ErrLimit, At: 65}}, {"(" + full + "not", api.Fault{Code: api.ErrLimit, At: 64}}, {"(" + full + "if", api.Fault{Code: api.ErrLimit, At: 64}}, {"(" + full + "s) (", api.Fault{Code: api.ErrSyntax, At: 67}},
	} {
		if _, fault := parser.Expression(c.source); fault != c.want {
			t.Errorf("%s: %v, not %v", c.source, fault, c.want)
		}
	}
	if _, fault := parser.Lattice(maps + "map lex set"); fault != (api.Fault{Code: api.ErrLimit, At: 64 * 4}) {
		t.Errorf("lex in 64 maps: %v", fault)
	}
}

// TestSame covers P16.3: which fields count, for trees that no source has.
func TestSame(t *testing.T) {
	leaf := api.Node{Kind: -3, Text: "\xff", N: -1 << 63, At: -1}
	tree := api.Node{Kind: 99, Text: "set", N: 1, At: 5, Kids: []api.Node{leaf, {}, {Kind: api.NodeInt, Kids: []api.Node{leaf, leaf}}}}
	change := func(edit func(n *api.Node)) api.Node {
		n := clone(tree)
		edit(&n)
		return n
	}
	for i, other := range []api.Node{
		change(func(n *api.Node) {}), change(func(n *api.Node) { n.At = 6 }), change(func(n *api.Node) { n.Kids[2].Kids[1].At = 1 << 40 }), change(func(n *api.Node) { n.Kids[0].Kids = []api.Node{} }), change(func(n *api.Node) { n.Kids[2].Kids[0].Kids = make([]api.Node, 0, 9) }),
	} {
		if !parser.Same(tree, other) || !parser.Same(other, tree) || parser.Size(other) != 6 {
			t.Errorf("case %d: Same is false, or Size is %d", i, parser.Size(other))
		}
	}
	for i, other := range []api.Node{
		{}, leaf, change(func(n *api.Node) { n.Kind = 98 }), change(func(n *api.Node) { n.Text = "" }), change(func(n *api.Node) { n.N = 0 }), change(func(n *api.Node) { n.Kids = nil }), change(func(n *api.Node) { n.Kids = n.Kids[:2] }), change(func(n *api.Node) { n.Kids = append(n.Kids, api.Node{}) }),
		change(func(n *api.Node) { n.Kids[0].Text = "\xfe" }), change(func(n *api.Node) { n.Kids[1].Kids = []api.Node{{}} }), change(func(n *api.Node) { n.Kids[2].Kids[1].N++ }), change(func(n *api.Node) { n.Kids[2].Kids[1].Kind = 3 }), change(func(n *api.Node) { n.Kids[0], n.Kids[1] = n.Kids[1], n.Kids[0] }),
	} {
		if parser.Same(tree, other) || parser.Same(other, tree) {
			t.Errorf("case %d: Same is true", i)
		}
	}
	if parser.Size(api.Node{}) != 1 || !parser.Same(api.Node{}, api.Node{Kids: []api.Node{}}) {
		t.Error("the zero tree")
	}
	// Trees can be deeper than any source.
	deep, other := leaf, leaf
	for range 1 << 16 {
		deep, other = api.Node{Kids: []api.Node{deep}}, api.Node{At: 1, Kids: []api.Node{other}}
	}
	other.Kids = slices.Clone(other.Kids)
	if parser.Size(deep) != 1<<16+1 || !parser.Same(deep, other) || parser.Same(deep, deep.Kids[0]) {
		t.Error("a deep tree")
	}
}
