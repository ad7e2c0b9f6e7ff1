package variance_test

import (
	"slices"
	"strings"
	"testing"

	"plexus/api"
	"plexus/parser"
	"plexus/sample"
	"plexus/types"
	"plexus/variance"
)

// object is the description of the object of the rows.
const object = "{ c: max(0, 9), d: min(-3, 3), a: map set, f: flag, w: flat, p: lex(max(0, 3), set), r: register, t: { k: closed('a', 'b', 'c'; 'a', 'b' => 'c'), m: map max(0, 5), n: map min(-5, 0), i: map max(-1, 5), j: map min(-5, 1), e: map flag, u: set, q: flag } }"

// params are the parameters of the rows.
func params() []api.Param {
	return []api.Param{{Name: "i", Sort: api.SortInt}, {Name: "b", Sort: api.SortBool}, {Name: "x", Sort: api.SortName}, {Name: "l", Sort: api.SortNames}}
}

// described returns the description of a source.
func described(t *testing.T, source string) api.Lattice {
	t.Helper()
	n, fault := parser.Lattice(source)
	if fault.Code != api.OK {
		t.Fatalf("%s: %v", source, fault)
	}
	l, fault := types.Lattice(nil, n)
	if fault.Code != api.OK {
		t.Fatalf("%s: %v", source, fault)
	}
	return l
}

// elaborated returns the elaboration of a source on an object with the lattice l; its type is a sort or described by a source.
func elaborated(t *testing.T, l api.Lattice, typ, source string) api.Expr {
	t.Helper()
	n, fault := parser.Expression(source)
	if fault.Code != api.OK {
		t.Fatalf("%s: %v", source, fault)
	}
	want := sample.Sort(1 + slices.Index([]string{"int", "bool", "name", "names"}, typ))
	if want.Sort == 0 {
		want = sample.Of(described(t, typ))
	}
	x, fault := types.Expression(l, params(), want, n)
	if fault.Code != api.OK {
		t.Fatalf("%s: %v", source, fault)
	}
	return x
}

// rows are expressions by their variances: a type, and sources of this type. Where one is not accepted, ! stands before the expression to blame.
var rows = map[int][][]string{
	variance.Constant: {
		{"int", "1", "i", "i + 1 - i", "size(l)", "if b then i else 2"},
		{"bool", "true", "b", "2 == 3", "i == i", "l == l", "x in l", "not b", "i <= 2", "i < 2", "b and b or b", "write(bottom, i, x) leq bottom", "conflict(write(bottom, 1, x))"},
		{"name", "'a'", "x", "if b then x else 'a'"}, {"names", "l", "values(write(bottom, 1, x))", "if b then l else l"},
		{"flag", "bottom", "flag(b)"}, {"max(0, 9)", "bottom", "num(i)", "bottom join num(i)"}, {"set", "set()", "set(x, l)"}, {"map set", "map()", "map(x: set(x))"}, {"flat", "one(x)", "one('a') join one(x)"}, {"{ a: flag }", "rec()", "rec(a: flag(b))"}, {"lex(flag, set)", "pair(bottom, set(x))"}, {"register", "write(bottom, i, x)", "write(write(bottom, 1, 'a'), 2, x)"},
	},
	variance.Up: {
		{"int", "number(s.c)", "number(s.c) + i", "i + number(s.c)", "number(s.c) - number(s.d)", "3 - number(s.d)", "size(s.a['x']) + number(s.c)", "size(s.a)", "size(s.t.k)", "size(s.t.u)", "size(keys(s.a))", "sum(s.t.m)", "0 - sum(s.t.n)", "number(first(s.p))", "number(s.c join num(5))",
			"if b then number(s.c) else 0 - number(s.d)", "if on(s.f) then 1 else 0", "if on(s.f) then 0 else 0", "if on(s.f) then 0 else -1", "if not on(s.f) then 0 else 1", "if number(s.c) < 3 then 1 else 2", "if 3 < number(s.c) then 2 else 1", "if b then 1 else size(s.a)"},
		{"bool", "on(s.f)", "on(s.f) and b", "b or on(s.f)", "not (number(s.c) <= 4)", "4 <= number(s.c)", "i < number(s.c)", "number(s.d) <= number(s.c)", "number(s.d) < 1", "x in keys(s.a)", "x in keys(s.t.k)", "conflict(s.w)", "bottom leq s.c", "num(4) leq s.c", "set(x) leq s.a['x']", "one(x) leq s.w", "if on(s.f) then true else false", "if on(s.f) then true else true", "if on(s.f) then false else false", "if not on(s.f) then false else true", "not not on(s.f)", "on(s.f join flag(on(s.t.q)))", "write(bottom, 1, x) leq s.r"},
		{"names", "keys(s.a)", "keys(s.t.u)", "keys(s.t.k)", "keys(s.a['x'])", "keys(set(keys(s.a)) join s.t.u)", "if b then keys(s.a) else l"},
		{object, "s", "s join bottom", "rec(c: num(5)) join s", "rec(c: s.c, f: flag(on(s.t.q)), t: s.t)", "if on(s.f) then s else bottom"},
		{"max(0, 9)", "s.c", "num(number(s.c))", "num(0 - number(s.d))", "num(size(s.a))"}, {"min(-3, 3)", "s.d", "num(number(s.d))", "num(3 - number(s.c))"}, {"flag", "s.f", "flag(on(s.f) or b)", "flag(4 < number(s.c))", "s.t.e[x]"}, {"set", "set(keys(s.a))", "set(x, keys(s.t.k), l)", "s.a[x]", "s.t.u join set(x)", "if on(s.f) then s.t.u else bottom"},
		{"set('a', 'b')", "set(keys(s.a))"}, {"closed('a', 'b', 'c'; 'a', 'b' => 'c')", "s.t.k", "set(keys(s.t.k), 'b')", "set(keys(s.a))"}, {"map set", "s.a", "map(x: s.t.u)", "map('a': s.t.u, x: s.a['x'], 'a': s.a[x])"}, {"map('a') flag", "map(x: s.f)"}, {"flat", "s.w", "s.w join one(x)", "if b then s.w else one(x)"}, {"register", "s.r", "write(s.r, 1, 'a')", "write(s.r, i, x)", "write(s.r join write(s.r, 2, 'a'), 1, 'b')"}, {"lex(max(0, 3), set)", "s.p", "pair(first(s.p), set(x))", "pair(num(number(s.c)), set(x, keys(s.t.u)))"}, {"lex(flag, flag)", "pair(s.f, flag(on(s.f)))"},
	},
	variance.Down: {
		{"int", "number(!s.d)", "3 - number(!s.c)", "number(!s.d) - number(s.c)", "number(!s.d) + i", "i + number(!s.d)", "sum(!s.t.n)", "0 - sum(!s.t.m)", "0 - size(!s.a)", "if on(!s.f) then 0 else 1", "if not on(!s.f) then 1 else 0", "if number(!s.c) <= 3 then 2 else 1", "if b then number(!s.d) else 3 - number(s.c)", "if on(!s.f) then -1 else 0"},
		{"bool", "not on(!s.f)", "number(!s.c) <= 4", "number(!s.c) < number(s.d)", "2 <= number(!s.d)", "not on(!s.f) or number(s.c) < 3", "b and number(!s.c) < 3", "!s.c leq bottom", "!s.a leq map(x: set(x))", "!s.w leq one(x)", "!s leq rec(c: num(3))", "!s.r leq write(bottom, 1, x)", "not (x in keys(!s.a))", "not conflict(!s.w)", "if on(!s.f) then false else true"},
		{"max(0, 9)", "num(number(!s.d))", "num(9 - number(!s.c))"}, {"min(-3, 3)", "num(number(!s.c))"}, {"flag", "flag(not on(!s.f))"}, {"map flag", "map(x: flag(not on(!s.f)))"}, {"{ a: flag, b: max(0, 9) }", "rec(a: flag(number(!s.c) < 4), b: num(5 - size(s.a)))"}, {"lex(flag, flag)", "pair(flag(not on(!s.f)), flag(number(s.c) < 4))"}, {"lex(flag, set)", "pair(flag(not on(!s.f)), set(x))"},
	},
	variance.None: {
		{"int", "number(s.c) + number(!s.d)", "number(!s.d) + number(s.c)", "number(s.c) - number(!s.c)", "number(s.c) + (2 - size(!s.a))", "!sum(s.t.i)", "!sum(s.t.j)", "1 - !sum(s.t.i)", "!size(s.r)", "1 + size(!second(s.p))", "size(!values(s.w))", "number(s.c) + (if b then 1 else number(!s.d))", "!if on(s.f) then size(s.a) else 0", "!if on(s.f) then number(s.c) else number(s.c)", "!if on(s.f) then 1 else 0 - 1", "!if on(s.f) then 1 else size(s.a)", "!if on(s.f) then 1 else i", "if number(s.c) !== 1 then 1 else 0", "if b then number(s.c) else number(!s.d)", "number(s.c) + !size(s.r)", "!size(s.r) + number(s.d)"},
		{"bool", "number(s.c) !== 4", "4 !== number(s.c)", "on(s.f) !== b", "keys(s.a) !== l", "!conflict(s.r)", "b and !conflict(s.r)", "x in !values(s.r)", "x in !values(s.w)", "(if on(s.f) then x else 'a') !in keys(s.a)", "(if on(s.f) then x else 'a') !in l", "number(!s.c) <= number(s.c)", "number(!s.c) < number(s.c)", "!s leq s", "!s.c leq num(number(s.c) + 1)", "on(s.f) and not on(!s.f)", "on(s.f) or number(!s.c) < 3", "!if on(s.f) then false else on(s.f)", "on(s.f) and (if not on(!s.f) then true else false)", "if b then on(s.f) else not on(!s.f)"},
		{"name", "!if on(s.f) then x else 'a'", "if b then x else (!if on(s.f) then x else 'a')"}, {"names", "!values(s.w)", "!values(s.r)", "!if on(s.f) then l else keys(s.a)", "keys(!second(s.p))"},
		{"set", "!second(s.p)", "!set(if on(s.f) then x else 'a')", "set(keys(!second(s.p)))", "s.a![if on(s.f) then x else 'a']", "!if on(s.f) then s.t.u else set(x)", "if on(!s.f) then bottom else s.t.u"}, {"flat", "!one(if on(s.f) then x else 'a')", "s.w join !one(if on(s.f) then x else 'a')"}, {"map set", "!map(if on(s.f) then x else 'a': s.t.u)", "map(x: !second(s.p))", "s.a join map('a': set(), x: !second(s.p))"},
		{"register", "!write(s.r, number(s.c), x)", "!write(s.r, 1, if on(s.f) then x else 'a')", "!write(bottom, size(s.a), x)"}, {"max(0, 9)", "num(!size(s.r))", "s.c join num(number(!s.d))"}, {"min(-3, 3)", "s.d join num(number(!s.c))"}, {"lex(flag, flag)", "pair(s.f, flag(not on(!s.f)))"}, {"{ a: flag, b: flag }", "rec(b: s.f, a: flag(not on(!s.f)))", "rec(a: s.f, b: flag(!conflict(s.r)))"},
	},
}

// each calls do for the elaboration of each row, with the offset of the expression to blame, or -1.
func each(t *testing.T, do func(source string, x api.Expr, want, at int)) {
	l := described(t, object)
	for want, lists := range rows {
		for _, list := range lists {
			for _, source := range list[1:] {
				at := strings.Index(source, "!")
				do(source, elaborated(t, l, list[0], strings.Replace(source, "!", "", 1)), want, at)
			}
		}
	}
}

// TestRows covers P20.2 and P20.3: all rows of the table, with and without their conditions, and the chapter's examples among them.
func TestRows(t *testing.T) {
	each(t, func(source string, x api.Expr, want, at int) {
		if got := variance.Of(x); got != want {
			t.Errorf("%s has the variance %d, not %d", source, got, want)
		}
		f := api.Function{Name: "q", On: "o", Params: params(), Result: max(x.Type.Sort, api.SortInt), Body: x}
		if got := variance.Blame(f); got != at || variance.Monotone(f) != (at < 0) {
			t.Errorf("%s is accepted: %v; %d is blamed, not %d", source, variance.Monotone(f), got, at)
		}
		f.Result = 0
		if variance.Monotone(f) || variance.Blame(f) != -1 {
			t.Errorf("%s as an update: %v, %d", source, variance.Monotone(f), variance.Blame(f))
		}
	})
}
