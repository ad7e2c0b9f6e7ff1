package inflation_test

import (
	"strings"
	"testing"

	"plexus/api"
	"plexus/parser"
	"plexus/types"
)

// rows returns lists of a lattice and bodies of updates on it. In those that are accepted, @ stands before each carrier; in the others, ! stands before the expression to blame.
func rows() [][]string {
	return [][]string{
		{"set", "@s", "@s join set('x')", "set('x') join @s", "@s join s", "(set('x') join bottom) join @s", "(@s join set('x')) join s", "!bottom", "!set('x')", "set('x') !join bottom", "set('x') !join (set('y') join bottom)", "(if b then s else bottom) !join bottom", "(if b then s else bottom) join @s",
			"if b then @s else @s", "if b then @s else @s join set('x')", "if b then s else !bottom", "if b then !bottom else s", "if b then !bottom else set('x')", "if b then (if b then @s else @s) else @s join set('x')", "if b then (if b then s else !bottom) else bottom", "if b then s else (if b then !bottom else s)", "if size(s) <= 1 then @s else @s", "if size(s) <= 1 then @s else set('x') join @s",
			"set(keys(@s))", "set(keys(@s), 'x')", "set('x', l, keys(@s))", "set(keys(@s), keys(s))", "set(x, keys(@s join set('x')), keys(s))", "set(keys(if b then @s else @s))", "set(keys(if b then s else bottom), keys(@s))", "set(keys(@s join bottom), 'x') join bottom", "!set(keys(if b then s else bottom))", "!set()", "!set('x')", "!set(l, x)", "!set(if b then keys(s) else keys(s))"},
		{"set('a', 'b')", "set(keys(@s))", "set(x, keys(@s))"},
		{"closed('a', 'b', 'c'; 'a', 'b' => 'c')", "@s", "set(keys(@s), 'b')", "!set('a')", "set('a') join @s"},
		{"{ a: set, b: set }", "@s", "rec(a: @s.a, b: @s.b)", "rec(b: @s.b, a: @s.a)", "@s join rec()", "!rec()", "!rec(a: s.a)", "!rec(b: s.b)", "rec(a: s!.b, b: s.a)", "rec(a: s.a, b: s!.a)", "rec(b: s.a, a: s!.b)", "rec(a: !bottom, b: bottom)", "rec(b: !bottom, a: s.a)", "rec(a: @s.a join s.b, b: s.a join @s.b)", "rec(a: set(keys(@s.a), keys(s.b)), b: set(keys(s.a), keys(@s.b)))", "rec(a: !set(keys(s.b)), b: s.b)",
			"rec(a: (@s join rec(a: set('x'))).a, b: @s.b)", "rec(a: (s join rec(b: set('x')))!.b, b: s.b)", "rec(a: (rec(a: s.a) join @s).a, b: @s.b)", "rec(a: (rec(a: @s.a, b: @s.b) join s).a, b: @s.b)", "rec(a: (if b then @s else @s).a, b: (if b then @s else rec(a: @s.a, b: @s.b)).b)", "rec(a: @s.a, b: (rec(b: s.b) join @s).b)",
			"rec(a: s.a, b: bottom) join @s", "rec(a: s.a) join rec(a: @s.a, b: @s.b)", "rec(a: s.a) !join rec(b: s.b)", "(if b then rec(a: s.a) else s) join @s", "(if b then s else rec(a: s.a)) join @s"},
		{"{ c: set('a'), d: set('a', 'b') }", "rec(c: !set(keys(s.d)), d: s.d)", "rec(c: set(keys(@s.c)), d: set(keys(@s.d)))", "rec(c: set(keys(set(keys(s.d)) join @s.c)), d: @s.d)", "rec(c: s.c, d: !set(keys(set(keys(s.d)) join s.c)))"},
		{"max(0, 9)", "num(number(@s))", "num(number(@s) + 1)", "num(1 + number(@s))", "num(number(@s) + 0)", "num(0 + number(@s))", "num(1 + (number(@s) + 0) + 2)", "num(number(@s) + 1000000000000000)", "!num(number(s) + -1)", "!num(-1 + number(s))", "!num(number(s) + 1 + -1)", "!num(number(s) - 0)", "!num(number(s) - 1)", "!num(number(s) - -1)", "!num(1 - number(s))", "!num(number(s) + i)", "!num(i + number(s))", "!num(number(s) + number(s))", "!num(number(s) + (1 + 1))", "!num(3)", "!num(3 + 4)", "!num(i)",
			"num(number(@s join num(3)))", "num(number(num(3) join @s))", "num(number(if b then @s else num(3) join @s) + 2)", "!num(number(if b then s else num(3)))", "!num(if b then number(s) else number(s))", "!num(size(l))", "num(number(num(3) join s) - 1) join @s", "num(3) !join num(9)", "num(number(num(number(@s) + 1) join s))"},
		{"min(0, 9)", "num(number(@s))", "num(number(@s) - 1)", "num(number(@s) - 0)", "num(number(@s) - 1 - 2)", "num(number(@s join num(3)) - 1000000000000000)", "!num(number(s) - -1)", "!num(number(s) + 0)", "!num(number(s) + 1)", "!num(number(s) + -1)", "!num(1 - number(s))", "!num(number(s) - i)", "!num(number(s) - number(s))", "!num(number(s) - (1 - 1))", "!num(number(s) - 1 - i)", "!num(number(s) + 1 - 1)", "!num(0)"},
		{"{ c: max(0, 5), d: max(0, 9), e: min(0, 9) }", "rec(c: s.c, d: !num(number(num(number(s.d)) join s.c)), e: s.e)", "rec(c: @s.c, d: num(number(num(number(@s.d)) join s.d)), e: @s.e)", "rec(c: !num(number(s.d)), d: s.d, e: s.e)", "rec(c: num(number(@s.c)), d: num(number(@s.d) + 1), e: num(number(@s.e) - 1))", "rec(c: s.c, d: !num(number(s.e)), e: s.e)", "rec(c: s.c, d: s.d, e: !num(number(s.d)))", "rec(c: s.c, d: num(number(num(number(s.d)) join s.c)) join s.d, e: !num(number(s.e) + 1))"},
		{"flag", "flag(on(@s))", "flag(true)", "!flag(false)", "!flag(b)", "flag(on(@s) or b)", "flag(b or on(@s))", "flag(b or b or on(@s))", "flag((b or on(@s)) or on(s))", "flag(on(@s) or on(s))", "flag(true or on(s))", "flag(on(@s) or true)", "flag(b or true)", "flag(on(@s) and on(@s))", "flag(true and on(@s))", "flag(on(@s) and true)", "flag(true and true)", "!flag(on(s) and b)", "!flag(b and on(s))", "!flag(not on(s))", "!flag(not false)", "!flag(b or b)", "!flag(b or on(s) and b)",
			"flag(on(s) and b or true)", "flag(on(s) and b or on(@s))", "flag(on(@s) or on(s) and b)", "!flag(on(s) and (b or false))", "flag(on(@s) and (b or on(@s)))", "!flag(if b then on(s) else on(s))", "!flag(if b then true else true)", "flag(on(if b then @s else @s))", "flag(on(flag(b) join @s))", "flag(on(flag(on(@s)) join s))", "!flag(on(if b then s else flag(b)))", "!flag(1 <= 2)", "!flag(true == true)"},
		{"lex(max(0, 9), set)", "@s", "pair(first(@s), second(@s))", "pair(first(@s), second(@s) join set('x'))", "pair(first(@s), set(keys(second(@s)), 'x'))", "pair(num(number(first(@s)) + 1), second(@s))", "pair(num(number(first(s)) + 1), !set('x'))", "pair(!num(3), second(s))", "pair(!bottom, bottom)", "pair(first(s), !bottom)", "pair(first(@s join pair(num(3), bottom)), second(@s))", "pair(first(pair(num(3), bottom) join @s), second(@s))", "pair(first(if b then @s else pair(first(@s), second(@s)) join s), second(@s))", "pair(first(s), !second(s join pair(num(3), bottom)))", "pair(first(s), !second(s join s))"},
		{"lex(max(0, 9), max(0, 9))", "pair(!second(s), first(s))", "pair(first(s), !first(s))", "pair(first(@s), second(@s))", "pair(num(number(first(@s))), num(number(second(@s)) + 3))", "pair(!num(number(second(s))), second(s))"},
		{"lex(lex(flag, max(0, 3)), { a: set, b: lex(flag, set) })", "pair(first(@s), second(@s))", "pair(pair(first(first(@s)), second(first(@s))), rec(a: second(@s).a, b: pair(first(second(@s).b), second(second(@s).b))))", "pair(pair(first(first(s)), second(first(s))), rec(a: second(s).a, b: pair(first(second(s).b), !second((if b then second(s) else second(s)).b))))", "pair(pair(first(first(@s join s)), second(first(@s))), second(@s))", "pair(pair(first(first(s)), !second(first(s join s))), second(s))", "pair(first(s), if b then second(s) else !rec())"},
		{"register", "@s", "write(@s, 1, 'x')", "write(@s, i, x)", "write(write(@s, 0, 'y'), 1, 'x')", "write(bottom join @s, 1, 'x')", "write(bottom join write(@s, 0, 'y'), 1, 'x')", "write(bottom, 1, x) join @s", "write(!bottom, 1, 'x')", "write(bottom !join bottom, 1, 'x')", "write(if b then s else !bottom, 1, 'x')", "write(write(!bottom, 1, 'x'), 1, 'x')"},
		{"map set", "@s", "@s join map('x': set('y'))", "!map('x': s['x'])", "!map()", "map(x: s[x] join set('y')) join @s"}, {"map('a') flag", "!map('a': s['a'])", "@s join map('a': flag(b))"},
		{"flat", "@s", "!one('a')", "!one(x)", "@s join one(x)"},
		{"{ t: { a: set, b: flag }, c: max(0, 9), m: map { a: set, b: flag } }", "@s", "rec(t: @s.t, c: @s.c, m: @s.m)", "rec(t: rec(a: @s.t.a, b: flag(on(@s.t.b))), c: @s.c, m: @s.m)", "rec(t: rec(a: s.t.a, b: !bottom), c: s.c, m: s.m)", "rec(t: !rec(a: s.t.a), c: s.c, m: s.m)", "rec(t: @s.t join rec(b: flag(true)), c: @s.c, m: @s.m)", "rec(t: (rec(t: s.t) join @s).t, c: @s.c, m: @s.m)", "rec(t: (if b then rec(t: @s.t, c: @s.c, m: @s.m) else @s).t, c: @s.c, m: @s.m)", "rec(t: rec(a: (@s.t join rec()).a, b: (@s join rec()).t.b), c: @s.c, m: @s.m)", "rec(t: s.m!['x'], c: s.c, m: s.m)", "rec(t: rec(a: s.t.a, b: !flag(on(s.t.b) and b)), c: num(number(s.c) - 1), m: s.m)", "rec(t: rec(a: s.t.a, b: flag(on(s.t.b) or b)), c: !num(number(s.c) - 1), m: s.m)", "rec(t: rec(a: s.t.a, b: !flag(on(s.m['x'].b))), c: s.c, m: s.m)"},
	}
}

// unmarked returns a source without its marks, the offsets of what stands behind them, and whether one of them is !.
func unmarked(source string) (string, []int, bool) {
	var at []int
	for i, c := range []byte(source) {
		if c == '@' || c == '!' {
			at = append(at, i-len(at))
		}
	}
	return strings.NewReplacer("@", "", "!", "").Replace(source), at, strings.Contains(source, "!")
}

// TestRows covers P21.1, P21.3 and P21.4 for updates from sources: all rules, and the chapter's examples among them.
func TestRows(t *testing.T) {
	for _, list := range rows() {
		l := described(t, list[0])
		for _, source := range list[1:] {
			plain, at, refused := unmarked(source)
			f := update(t, l, plain)
			if refused {
				answers(t, l, f, false, at[0], nil)
			} else {
				answers(t, l, f, true, 0, at)
			}
			compared(t, l, f)
			if t.Failed() {
				t.Fatal(source)
			}
		}
	}
}

// TestOnce covers P21.4: the carriers are increasing, and each is there once, whatever their offsets are.
func TestOnce(t *testing.T) {
	l := described(t, "{ a: set, b: set, c: set }")
	f := update(t, l, "rec(c: s.c, b: s.b, a: s.a)")
	for _, c := range []struct{ at, want []int }{
		{[]int{3, 2, 1}, []int{1, 2, 3}}, {[]int{7, 7, 7}, []int{7}}, {[]int{5, -5, 5}, []int{-5, 5}}, {[]int{0, 1 << 40, -1 << 40}, []int{-1 << 40, 0, 1 << 40}},
	} {
		for i, at := range c.at {
			f.Body.Kids[i].Kids[0].At = at
		}
		answers(t, l, f, true, 0, c.want)
	}
}

// TestProgram covers P21.1, P21.3 and P21.4 for updates of whole programs, where offsets count from the beginning of the source.
func TestProgram(t *testing.T) {
	for _, source := range []string{
		"object o: { a: set, c: max(0, 9) }; update put(x: name) on o = @s join rec(a: set(x));", "object o: { a: set, c: max(0, 9) }; update more() on o = rec(a: @s.a, c: num(number(@s.c) + 1));",
		"object o: { a: set, c: max(0, 9) }; update less(b: bool) on o = if b then s else !rec(a: s.a);", "object o: { a: set, c: max(0, 9) }; update set-a(x: name) on o = !rec(a: s.a join set('x'));",
	} {
		plain, at, refused := unmarked(source)
		n, fault := parser.Parse(plain)
		p, other := types.Check(n)
		if fault.Code != api.OK || other.Code != api.OK {
			t.Fatalf("%s: %v, %v", plain, fault, other)
		}
		answers(t, p.Objects[0].Lattice, p.Updates[0], !refused, at[0], at)
	}
}
