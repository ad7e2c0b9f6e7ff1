package eval_test

import (
	"slices"
	"strconv"
	"testing"

	"plexus/api"
	"plexus/eval"
	"plexus/sample"
	"plexus/value"
)

// object is the description of the object of most of the rows.
const object = "{ c: max(0, 9), d: min(-3, 3), a: map set, f: flat, r: register, p: lex(max(0, 3), set), k: closed('a', 'b', 'c', 'd'; 'a', 'b' => 'c'; 'c' => 'd'), t: { g: flag, e: map('x', 'y') map flag, u: set('p', 'q'), w: flat('p', 'q'), m: map max(-5, 5), n: map('x', 'y') min(-2, 2), z: closed('a', 'b') } }"

// state returns a state of the object: (c: 3, d: 1, a: {x: {p}, y: {p,q}}, f: n, r: [x@1:1 | y@2:1], p: <2, {v}>, k: {a}, t: (g: true, e: {x: {a: true}}, u: {p}, w: !, m: {i: -4, j: 5}, n: {x: -2, y: 1}, z: {})).
func state() api.Value {
	yes, none := sample.Number(1), api.Value{}
	return sample.Parts(
		sample.Number(3), sample.Number(1), sample.Keyed([]string{"x", "y"}, sample.Named("p"), sample.Named("p", "q")), sample.Atom("n"), sample.Written(sample.Entry("x", 1, 1), sample.Entry("y", 2, 1)), sample.Parts(sample.Number(2), sample.Named("v")), sample.Named("a"),
		sample.Parts(yes, sample.Keyed([]string{"x"}, sample.Keyed([]string{"a"}, yes)), sample.Named("p"), sample.Number(2), sample.Keyed([]string{"i", "j"}, sample.Number(-4), sample.Number(5)), sample.Keyed([]string{"x", "y"}, sample.Number(-2), sample.Number(1)), none),
	)
}

// params returns the parameters of the rows.
func params() []api.Param {
	return []api.Param{{Name: "i", Sort: api.SortInt}, {Name: "b", Sort: api.SortBool}, {Name: "x", Sort: api.SortName}, {Name: "l", Sort: api.SortNames}, {Name: "big", Sort: api.SortInt}, {Name: "no", Sort: api.SortBool}, {Name: "y", Sort: api.SortName}, {Name: "e", Sort: api.SortNames}}
}

// args returns their arguments.
func args() []api.Datum {
	return []api.Datum{number(7), truth(true), name("x"), set("p", "x"), number(api.MaxNumber), truth(false), name("y"), set()}
}

// wantedType returns the type that is named by a sort or described by a source.
func wantedType(t *testing.T, source string) api.Type {
	t.Helper()
	if sort := slices.Index([]string{"int", "bool", "name", "names"}, source); sort >= 0 {
		return sample.Sort(sort + 1)
	}
	return sample.Of(described(t, source))
}

// rows checks the results of expressions of one type: pairs of a source and the text of its result.
func rows(t *testing.T, typ string, pairs ...string) {
	t.Helper()
	l, want := described(t, object), wantedType(t, typ)
	if !value.Valid(l, state()) {
		t.Fatal("the state is no element")
	}
	for i := 0; i < len(pairs); i += 2 {
		x := elaborated(t, l, params(), want, pairs[i])
		if got := result(t, x, state(), args()); got != pairs[i+1] {
			t.Errorf("%s is %s, not %s", pairs[i], got, pairs[i+1])
		}
	}
}

// TestData covers P19.2: XInt, XBool, XName and XParam.
func TestData(t *testing.T) {
	rows(t, "int", "0", "0", "7", "7", "-12", "-12", "1000000000000000", "1000000000000000", "-1000000000000000", "-1000000000000000", "i", "7", "big", "1000000000000000")
	rows(t, "bool", "true", "true", "false", "false", "b", "true", "no", "false")
	rows(t, "name", "'a'", "a", "'set'", "set", "'abcdefghij-12345'", "abcdefghij-12345", "x", "x", "y", "y")
	rows(t, "names", "l", "{p,x}", "e", "{}")
}

// TestState covers P19.2: XState and XBottom.
func TestState(t *testing.T) {
	rows(t, object, "s", "(c: 3, d: 1, a: {x: {p}, y: {p,q}}, f: n, r: [x@1:1 | y@2:1], p: <2, {v}>, k: {a}, t: (g: true, e: {x: {a: true}}, u: {p}, w: !, m: {i: -4, j: 5}, n: {x: -2, y: 1}, z: {}))",
		"bottom", "(c: 0, d: 3, a: {}, f: ?, r: [], p: <0, {}>, k: {}, t: (g: false, e: {}, u: {}, w: ?, m: {}, n: {}, z: {}))")
	for source, want := range map[string]string{"max(-2, 5)": "-2", "min(-2, 5)": "5", "flag": "false", "set('a')": "{}", "map flag": "{}", "flat('a')": "?", "register": "[]", "lex(min(1, 2), { g: max(4, 4) })": "<2, (g: 4)>", "closed('a')": "{}"} {
		rows(t, source, "bottom", want)
	}
}

// TestConditions covers P19.2: XIf, XOr, XAnd, XNot, XLessEq and XLess.
func TestConditions(t *testing.T) {
	rows(t, "int", "if true then 1 else 2", "1", "if false then 1 else 2", "2", "if b then i else 2", "7", "if no then 1 else big", "1000000000000000", "if if no then b else no then 1 else 2", "2", "1 + (if b then 2 else 3)", "3")
	rows(t, "name", "if b then 'p' else x", "p", "if no then 'p' else x", "x")
	rows(t, "names", "if b then l else keys(s.a)", "{p,x}", "if no then l else keys(s.a)", "{x,y}")
	rows(t, "max(0, 9)", "if b then s.c else bottom", "3", "if no then s.c else bottom", "0", "if b then bottom else num(4)", "0", "if no then bottom else num(4)", "4")
	rows(t, "bool", "if b then no else b", "false",
		"true or true", "true", "true or false", "true", "false or true", "true", "false or false", "false", "true and true", "true", "true and false", "false", "false and true", "false", "false and false", "false", "not true", "false", "not false", "true", "no or b and no", "false",
		"1 <= 2", "true", "2 <= 2", "true", "3 <= 2", "false", "-1 <= -2", "false", "-2 <= -1", "true", "1 < 2", "true", "2 < 2", "false", "3 < 2", "false", "-2 < -1", "true", "-1000000000000000 < 1000000000000000", "true", "big <= 1000000000000000", "true", "big < 1000000000000000", "false")
}

// TestComparisons covers P19.2: XEqual, XIn and XLeq.
func TestComparisons(t *testing.T) {
	rows(t, "bool", "1 == 1", "true", "1 == 2", "false", "1 == -1", "false", "i == 7", "true", "true == true", "true", "true == false", "false", "false == no", "true", "b == no", "false", "'x' == x", "true", "'x' == y", "false", "'p' == 'p-1'", "false",
		"l == l", "true", "e == e", "true", "l == e", "false", "e == l", "false", "l == keys(s.a)", "false", "values(s.f) == e", "false", "values(s.t.w) == e", "true", "keys(s.a) == values(s.r)", "true", "keys(s.t.e) == keys(s.a)", "false",
		"x in l", "true", "'p' in l", "true", "y in l", "false", "x in e", "false", "'a' in keys(s.k)", "true", "'c' in keys(s.k)", "false", "'x' in values(s.r)", "true",
		"s.c leq num(3)", "true", "s.c leq num(4)", "true", "s.c leq num(2)", "false", "num(4) leq s.c", "false", "s.d leq num(0)", "true", "s.d leq num(1)", "true", "s.d leq num(2)", "false", "bottom leq s", "true", "s leq bottom", "false", "s leq s", "true", "s.a leq map('x': set('p'))", "false", "map('x': set('p')) leq s.a", "true", "map('x': set('q')) leq s.a", "false",
		"s.f leq one('n')", "true", "one('m') leq s.f", "false", "s.f leq one('n') join one('m')", "true", "s.r leq write(s.r, 0, 'z')", "true", "write(s.r, 0, 'z') leq s.r", "false", "s.p leq pair(num(3), bottom)", "true", "pair(num(2), set('u')) leq s.p", "false", "s.k leq set('b')", "false", "set('b') leq set('a', 'b') join s.k", "true", "s.t.g leq flag(false)", "false", "flag(no) leq s.t.g", "true")
}

// TestJoins covers P19.2: XJoin.
func TestJoins(t *testing.T) {
	rows(t, "max(0, 9)", "s.c join num(5)", "5", "num(2) join s.c", "3", "bottom join bottom", "0")
	rows(t, "min(-3, 3)", "s.d join num(-1)", "-1", "s.d join num(2)", "1")
	rows(t, "map set", "s.a join map('x': set('q'), 'z': set('r'))", "{x: {p,q}, y: {p,q}, z: {r}}")
	rows(t, "flat", "s.f join one('n')", "n", "s.f join one('m')", "!", "s.f join bottom", "n")
	rows(t, "register", "s.r join write(bottom, 0, 'z')", "[x@1:1 | y@2:1 | z@0:1]", "s.r join write(s.r, 0, 'z')", "[z@0:1.1:1.2:1]")
	rows(t, "lex(max(0, 3), set)", "s.p join pair(num(2), set('u'))", "<2, {u,v}>", "s.p join pair(num(3), bottom)", "<3, {}>", "pair(num(1), set('u')) join s.p", "<2, {v}>")
	rows(t, "closed('a', 'b', 'c', 'd'; 'a', 'b' => 'c'; 'c' => 'd')", "s.k join set('b')", "{a,b,c,d}", "s.k join set('c')", "{a,c,d}")
	rows(t, "flag", "flag(false) join s.t.g", "true", "flag(false) join bottom", "false")
	rows(t, "set('p', 'q')", "s.t.u join set('q') join set(x)", "{p,q}")
	rows(t, object, "s join rec(c: num(5), f: one('m'), t: rec(u: set('q')))", "(c: 5, d: 1, a: {x: {p}, y: {p,q}}, f: !, r: [x@1:1 | y@2:1], p: <2, {v}>, k: {a}, t: (g: true, e: {x: {a: true}}, u: {p,q}, w: !, m: {i: -4, j: 5}, n: {x: -2, y: 1}, z: {}))")
}

// TestNumbers covers P19.2: XPlus and XMinus, XNumber and XSum.
func TestNumbers(t *testing.T) {
	rows(t, "int", "1 + 2", "3", "1 - 2", "-1", "i + i - 4", "10", "i - (i - 4)", "4", "-3 + -4", "-7", "-3 - -4", "1",
		"big + 0", "1000000000000000", "big + 1", "1000000000000000", "big + big", "1000000000000000", "big + big - 1", "999999999999999", "-1 + big + 1", "1000000000000000", "-1 + big", "999999999999999", "1 + (big - 1)", "1000000000000000", "big - -1", "1000000000000000",
		"0 - big", "-1000000000000000", "0 - big - 1", "-1000000000000000", "0 - big - big", "-1000000000000000", "0 - big - big + big", "0", "0 - big + -1", "-1000000000000000", "-1 - big", "-1000000000000000", "-1 - big + 1", "-999999999999999", "big - big", "0",
		"number(s.c)", "3", "number(s.d)", "1", "number(s.c) - number(s.d)", "2", "number(s.c join num(9))", "9", "number(s.d join num(-3))", "-3", "number(first(s.p))", "2",
		"sum(s.t.m)", "1", "sum(s.t.n)", "-1", "sum(s.t.m join map('i': num(5)))", "10", "sum(s.t.n join map('y': num(-2)))", "-4", "sum(if b then bottom else s.t.m)", "0")
}

// TestSumOrder covers P19.2: the values of all keys are added in their order, and each sum saturates.
func TestSumOrder(t *testing.T) {
	const most, count = 1000000000, 1000003
	m := api.Value{Names: make([]string, count), Parts: make([]api.Value, count)}
	for i := range count {
		m.Names[i] = "a" + strconv.Itoa(count+i)
		m.Parts[i].N = most
	}
	l := sample.MapOf(sample.Bounds(api.Max, -most, most))
	sum := api.Expr{Op: api.XSum, Type: sample.Sort(api.SortInt), Kids: []api.Expr{{Op: api.XState, Type: sample.Of(l)}}}
	check := func(want int64) {
		t.Helper()
		if d, e := eval.Datum(sum, m, nil); e != api.OK || d.N != want {
			t.Errorf("%d, %d, not %d", e, d.N, want)
		}
	}
	check(api.MaxNumber)
	m.Parts[count-1].N = 5 - most
	check(api.MaxNumber + 5 - most)
	m.Parts[0].N, m.Parts[count-1].N = 5-most, most
	check(api.MaxNumber)
	for i := range count {
		m.Parts[i].N = 1 - most
	}
	check(-api.MaxNumber)
	m.Parts[count-1].N = 5
	check(-api.MaxNumber + 5)
	for i := range count {
		m.Parts[i].N = int64(i%2*2-1) * (most - 1)
	}
	check(-most + 1)
}

// TestSelections covers P19.2: XField, XAt, XFirst and XSecond.
func TestSelections(t *testing.T) {
	rows(t, "max(0, 9)", "s.c", "3")
	rows(t, "min(-3, 3)", "s.d", "1")
	rows(t, "map set", "s.a", "{x: {p}, y: {p,q}}", "(s join rec(a: map('x': set('q')))).a", "{x: {p,q}, y: {p,q}}", "(if b then s else bottom).a", "{x: {p}, y: {p,q}}")
	rows(t, "closed('a', 'b')", "s.t.z", "{}")
	rows(t, "flag", "s.t.g", "true", "s.t.e['x']['a']", "true", "s.t.e['x']['b']", "false", "s.t.e['y']['a']", "false")
	rows(t, "set", "s.a['x']", "{p}", "s.a[y]", "{p,q}", "s.a['z']", "{}", "s.a['w']", "{}", "s.a['xx']", "{}", "(s.a join map('z': set('r')))['z']", "{r}", "second(s.p)", "{v}", "second(s.p join pair(num(2), set('u')))", "{u,v}")
	rows(t, "map flag", "s.t.e['x']", "{a: true}", "s.t.e['y']", "{}", "s.t.e['z']", "{}")
	rows(t, "max(-5, 5)", "s.t.m['i']", "-4", "s.t.m['j']", "5", "s.t.m['k']", "-5", "(if b then bottom else s.t.m)['i']", "-5")
	rows(t, "min(-2, 2)", "s.t.n['x']", "-2", "s.t.n['y']", "1", "s.t.n['z']", "2")
	rows(t, "max(0, 3)", "first(s.p)", "2", "first(s.p join pair(num(3), set('u')))", "3")
}

// TestMaking covers P19.2: XFlag, XNum, XRec, XPair and XOne.
func TestMaking(t *testing.T) {
	rows(t, "flag", "flag(true)", "true", "flag(false)", "false", "flag(no or b)", "true")
	rows(t, "max(0, 9)", "num(5)", "5", "num(0)", "0", "num(9)", "9", "num(10)", "9", "num(-1)", "0", "num(12)", "9", "num(big)", "9", "num(0 - big)", "0")
	rows(t, "min(-3, 3)", "num(2)", "2", "num(-3)", "-3", "num(3)", "3", "num(4)", "3", "num(-4)", "-3", "num(big)", "3", "num(0 - big)", "-3")
	rows(t, "max(2, 2)", "num(1)", "2", "num(3)", "2")
	rows(t, "{ a: flag, b: max(1, 5), c: set }", "rec()", "(a: false, b: 1, c: {})", "rec(c: set(x), a: flag(true))", "(a: true, b: 1, c: {x})", "rec(c: bottom, b: num(9), a: bottom)", "(a: false, b: 5, c: {})")
	rows(t, "lex(max(0, 3), set)", "pair(num(5), set('b', 'a'))", "<3, {a,b}>", "pair(bottom, bottom)", "<0, {}>", "pair(first(s.p), second(s.p))", "<2, {v}>")
	rows(t, "lex(lex(flag, min(1, 2)), flat)", "pair(pair(flag(b), num(0)), one(x))", "<<true, 1>, x>")
	rows(t, "flat", "one('p')", "p", "one(x)", "x")
	rows(t, "flat('q')", "one('p')", "?", "one('q')", "q")
	rows(t, "flat('p', 'x')", "one(x)", "x", "one(y)", "?")
}

// TestSets covers P19.2: XSet.
func TestSets(t *testing.T) {
	rows(t, "set", "set()", "{}", "set('b', 'a', 'b')", "{a,b}", "set(l)", "{p,x}", "set(l, 'q', x, e)", "{p,q,x}", "set(e)", "{}", "set(keys(s.a), values(s.f), y)", "{n,x,y}")
	rows(t, "set('q', 'r')", "set('p', 'q')", "{q}", "set('p')", "{}", "set(l)", "{}", "set('r', 'q', 'p', 'r', l)", "{q,r}")
	rows(t, "closed('a', 'b', 'c', 'd'; 'a', 'b' => 'c'; 'c' => 'd')", "set()", "{}", "set('a')", "{a}", "set('b', 'a')", "{a,b,c,d}", "set('c')", "{c,d}", "set('x', 'c', 'z')", "{c,d}", "set('z', l)", "{}", "set(keys(s.k), 'b')", "{a,b,c,d}")
	rows(t, "closed('a', 'b'; 'b' => 'a')", "set('b')", "{a,b}", "set('c', 'b')", "{a,b}", "set('c')", "{}")
}

// TestMaps covers P19.2: XMap.
func TestMaps(t *testing.T) {
	rows(t, "map set", "map()", "{}", "map('x': set('p'))", "{x: {p}}", "map('y': set('p'), 'x': set('q'))", "{x: {q}, y: {p}}", "map('x': set('p'), 'y': set('r'), 'x': set('q'))", "{x: {p,q}, y: {r}}", "map(x: set('p'), 'x': s.a['y'], y: bottom)", "{x: {p,q}}", "map('x': set())", "{}", "map('x': bottom, 'x': set('p'), 'x': bottom)", "{x: {p}}", "map('x': bottom, 'x': bottom)", "{}")
	rows(t, "map('x', 'y') set", "map('z': set('p'))", "{}", "map('z': set('p'), 'y': set('q'))", "{y: {q}}", "map(x: set(x), y: set(y))", "{x: {x}, y: {y}}")
	rows(t, "map max(-5, 5)", "map('a': num(-5))", "{}", "map('a': num(-6), 'b': num(-4))", "{b: -4}", "map('a': num(1), 'a': num(3), 'a': num(2))", "{a: 3}", "map('a': num(0))", "{a: 0}")
	rows(t, "map min(-5, 5)", "map('a': num(5))", "{}", "map('a': num(1), 'a': num(3), 'a': num(2))", "{a: 1}", "map('a': num(9), 'b': num(0))", "{b: 0}")
	rows(t, "map max(2, 2)", "map('a': num(7))", "{}")
	rows(t, "map flat", "map('a': one('p'), 'a': one('q'))", "{a: !}", "map('a': one('p'), 'b': bottom)", "{a: p}")
	rows(t, "map closed('a', 'b', 'c'; 'a', 'b' => 'c')", "map('k': set('a'), 'k': set('b'))", "{k: {a,b,c}}")
	rows(t, "map { a: flag, b: map('x') flag }", "map('k': rec(a: flag(false), b: map('y': flag(true))))", "{}", "map('k': rec(b: map('x': flag(true))))", "{k: (a: false, b: {x: true})}")
}

// TestWrites covers P19.2: XWrite.
func TestWrites(t *testing.T) {
	rows(t, "register", "write(bottom, 1, 'a')", "[a@1:1]", "write(s.r, 1, 'a')", "[a@1:2.2:1]", "write(s.r, 0, 'x')", "[x@0:1.1:1.2:1]", "write(s.r, i, y)", "[y@1:1.2:1.7:1]", "write(write(s.r, 1, 'a'), 1, 'b')", "[b@1:3.2:1]",
		"write(bottom, -1, 'a')", "[a@0:1]", "write(bottom, 0 - big, 'a')", "[a@0:1]", "write(bottom, 63, 'a')", "[a@63:1]", "write(bottom, 64, 'a')", "[a@63:1]", "write(bottom, big, 'a')", "[a@63:1]", "write(bottom, 62, 'a')", "[a@62:1]")
	const most = api.MaxNumber
	for _, c := range []struct {
		v    api.Value
		call string
		want string
	}{
		{sample.Written(sample.Entry("x", 1, most-1)), "write(s, 1, 'a')", "[a@1:1000000000000000]"},
		{sample.Written(sample.Entry("x", 1, most)), "write(s, 1, 'a')", "[a@1:1000000000000000 | x@1:1000000000000000]"}, {sample.Written(sample.Entry("x", 1, most)), "write(s, 1, 'x')", "[x@1:1000000000000000]"}, {sample.Written(sample.Entry("x", 1, most)), "write(s, 2, 'a')", "[a@1:1000000000000000.2:1]"},
		{sample.Written(sample.Entry("x", 1, most), sample.Entry("y", 2, 3)), "write(s, 1, 'a')", "[a@1:1000000000000000.2:3]"}, {sample.Written(sample.Entry("x", 1, most), sample.Entry("y", 2, 3)), "write(s, 2, 'a')", "[a@1:1000000000000000.2:4]"}, {sample.Written(sample.Entry("x", 0, most)), "write(s, -5, 'a')", "[a@0:1000000000000000 | x@0:1000000000000000]"}, {sample.Written(sample.Entry("x", 63, most), sample.Entry("y", 63, most)), "write(s, 64, 'z')", "[x@63:1000000000000000 | y@63:1000000000000000 | z@63:1000000000000000]"},
		{sample.Written(sample.Entry("a", 1, most, 2, 1), sample.Entry("b", 1, 4, 2, 2)), "write(s, 1, 'c')", "[c@1:1000000000000000.2:2]"},
	} {
		l := api.Lattice{Kind: api.Register}
		if got := result(t, elaborated(t, l, nil, sample.Of(l), c.call), c.v, nil); got != c.want {
			t.Errorf("%s over %v is %s, not %s", c.call, c.v, got, c.want)
		}
	}
}

// TestReading covers P19.2: XSize, XOn, XKeys, XValues and XConflict.
func TestReading(t *testing.T) {
	rows(t, "int", "size(l)", "2", "size(e)", "0", "size(keys(s.a))", "2", "size(s.a)", "2", "size(s.a['x'])", "1", "size(s.a['z'])", "0", "size(s.r)", "2", "size(write(s.r, 1, 'x'))", "1", "size(s.k)", "1", "size(s.k join set('b'))", "4", "size(s.t.u)", "1", "size(s.t.e)", "1", "size(s.t.z)", "0")
	rows(t, "bool", "on(s.t.g)", "true", "on(s.t.e['y']['a'])", "false", "on(s.t.g join flag(false))", "true",
		"conflict(s.f)", "false", "conflict(s.t.w)", "true", "conflict(s.f join one('m'))", "true", "conflict(s.f join one('n'))", "false", "conflict(if b then bottom else s.f)", "false", "conflict(s.r)", "true", "conflict(write(s.r, 1, 'x'))", "false", "conflict(write(bottom, 1, 'x') join write(bottom, 2, 'x'))", "false", "conflict(if b then bottom else s.r)", "false")
	rows(t, "names", "keys(s.a)", "{x,y}", "keys(s.a['y'])", "{p,q}", "keys(s.k)", "{a}", "keys(s.k join set('c'))", "{a,c,d}", "keys(s.t.e)", "{x}", "keys(s.t.z)", "{}", "keys(second(s.p))", "{v}",
		"values(s.f)", "{n}", "values(s.t.w)", "{}", "values(s.f join one('m'))", "{}", "values(if b then bottom else s.f)", "{}", "values(s.r)", "{x,y}", "values(write(s.r, 1, 'a'))", "{a}", "values(s.r join write(bottom, 3, 'x'))", "{x,y}", "values(if b then bottom else s.r)", "{}")
}

// TestExamples covers the chapter's examples 1 to 3.
func TestExamples(t *testing.T) {
	p := program(t, "object o: { c: max(0, 9), a: map set }; update add(k: name, x: name) on o = s join rec(a: map(k: set(x))); query count(k: name) on o: int = size(s.a[k]) + number(s.c);")
	l := p.Objects[0].Lattice
	s := sample.Parts(sample.Number(3), sample.Keyed([]string{"x"}, sample.Named("p")))
	v, e := eval.Update(l, p.Updates[0], s, []api.Datum{name("y"), name("q")})
	if text, f := value.Text(l, v); e != api.OK || f != api.OK || text != "(c: 3, a: {x: {p}, y: {q}})" {
		t.Errorf("%d, %s", e, text)
	}
	for key, want := range map[string]int64{"x": 4, "y": 3} {
		if d, e := eval.Query(l, p.Queries[0], s, []api.Datum{name(key)}); e != api.OK || text(d) != text(number(want)) {
			t.Errorf("%s: %d, %v", key, e, d)
		}
	}
	for _, c := range [][3]string{{"max(0, 9)", "num(12)", "9"}, {"set('q', 'r')", "set('p', 'q')", "{q}"}, {"flat('q')", "one('p')", "?"}} {
		want := wantedType(t, c[0])
		if got := result(t, elaborated(t, l, nil, want, c[1]), s, nil); got != c[2] {
			t.Errorf("%s is %s", c[1], got)
		}
	}
}

// TestReads covers P19.4.
func TestReads(t *testing.T) {
	l := described(t, object)
	for _, c := range []struct {
		typ, with, without string
	}{
		{"int", "number(s.c)", "1"}, {"int", "1 + size(s.a)", "1 + i"}, {"int", "size(s.r) + 1", "i + 1"}, {"int", "if on(s.t.g) then 1 else 2", "if b then 1 else 2"}, {"int", "if b then number(s.c) else 1", "if b then i else 1"}, {"int", "if b then 1 else size(s.r)", "if b then 1 else size(l)"},
		{"bool", "not not not on(s.t.g)", "not not not b"}, {"bool", "'x' in keys(s.a)", "x in l"}, {"bool", "s leq s", "bottom leq write(bottom, 1, 'x')"}, {"names", "values(s.f)", "l"},
		{object, "s", "bottom"}, {object, "rec(t: rec(w: s.t.w))", "rec(t: rec(w: one('p')))"}, {object, "rec() join s", "rec() join bottom"},
		{"set", "set('a', x, keys(s.a), l)", "set('a', x, l)"}, {"map set", "map(x: set(), 'y': s.a['y'])", "map(x: set(), 'y': set())"}, {"register", "write(s.r, 1, 'x')", "write(bottom, 1, 'x')"},
	} {
		want := wantedType(t, c.typ)
		if !eval.Reads(elaborated(t, l, params(), want, c.with)) {
			t.Errorf("%s does not read", c.with)
		}
		if eval.Reads(elaborated(t, l, params(), want, c.without)) {
			t.Errorf("%s reads", c.without)
		}
	}
	// Also of expressions that are no elaborations.
	deep := api.Expr{Op: api.XInt, Kids: []api.Expr{{Op: 99}, {Kids: []api.Expr{{}, {Op: api.XState}}}}}
	if !eval.Reads(deep) || eval.Reads(api.Expr{Op: 99, Kids: []api.Expr{{}, {Op: -5}}}) || eval.Reads(api.Expr{}) || !eval.Reads(api.Expr{Op: api.XState, Kids: []api.Expr{{}}}) {
		t.Error("expressions that are no elaborations")
	}
}
