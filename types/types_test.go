package types_test

import (
	"strconv"
	"strings"
	"testing"

	"plexus/api"
	"plexus/parser"
	"plexus/sample"
	"plexus/types"
)

// program returns the tree of a source.
func program(t *testing.T, source string) api.Node {
	t.Helper()
	n, fault := parser.Parse(source)
	if fault.Code != api.OK {
		t.Fatalf("%s: %v", source, fault)
	}
	return n
}

// checked returns the checked program of a source.
func checked(t *testing.T, source string) api.Program {
	t.Helper()
	p, fault := types.Check(program(t, source))
	if fault != (api.Fault{}) || !types.Program(p) {
		t.Fatalf("%s: %v", source, fault)
	}
	return p
}

// fails checks the fault of a program, which is where ! stands in its source.
func fails(t *testing.T, source string, code api.Errno) {
	t.Helper()
	at := strings.Index(source, "!")
	source = strings.Replace(source, "!", "", 1)
	if p, fault := types.Check(program(t, source)); fault != (api.Fault{Code: code, At: at}) || text(p) != text(api.Program{}) {
		t.Errorf("%s: %v, not %d at %d", source, fault, code, at)
	}
}

// short returns the operations of an elaboration as a text, with N and Text where they are not zero.
func short(e api.Expr) string {
	names := []string{"?", "int", "bool", "name", "param", "state", "bottom", "if", "or", "and", "not", "<=", "<", "==", "in", "leq", "join", "+", "-", "field", "at", "flag", "num", "set", "map", "rec", "pair", "one", "write", "size", "sum", "number", "on", "keys", "values", "first", "second", "conflict"}
	s := names[e.Op] + e.Text
	if e.N != 0 {
		s += strconv.FormatInt(e.N, 10)
	}
	var kids []string
	for _, kid := range e.Kids {
		kids = append(kids, short(kid))
	}
	if len(kids) > 0 {
		s += "(" + strings.Join(kids, " ") + ")"
	}
	return s
}

// object is the declaration of the object of the expressions in the tables below.
const object = "object o: { c: max(0, 9), d: min(-1, 1), a: map set, f: flat, r: register, p: lex(flag, max(0, 5)), k: closed('x', 'y'; 'x' => 'y'), t: { m: map('x') max(1, 2), n: map min(0, 1), g: flag, e: map map set, u: set('x') } };\n"

// The heads of functions with all parameters.
const (
	update = "update f(i: int, b: bool, x: name, l: names) on o = "
	query  = "query f(i: int, b: bool, x: name, l: names) on o: "
)

// TestElaborations covers P18.1 for each row of the tables.
func TestElaborations(t *testing.T) {
	for _, c := range [][2]string{
		{update + "s", "state"}, {update + "bottom", "bottom"}, {update + "bottom join bottom", "join(bottom bottom)"}, {update + "s join bottom", "join(state bottom)"}, {update + "if b then s else bottom", "if(param1 state bottom)"}, {update + "if true then bottom else bottom", "if(bool1 bottom bottom)"},
		{update + "rec()", "rec(bottom bottom bottom bottom bottom bottom bottom bottom)"},
		{update + "rec(r: s.r, c: num(i))", "rec(num(param) bottom bottom bottom field4(state) bottom bottom bottom)"},
		{update + "rec(d: num(-1), a: map(x: set(x, l, 'y', keys(s.a))), t: rec(u: bottom, m: map(), g: flag(false)), p: pair(flag(b), num(2)), k: set('x'), f: one(x))", "rec(bottom num(int-1) map(param2 set(param2 param3 namey keys(field2(state)))) one(param2) bottom pair(flag(param1) num(int2)) set(namex) rec(map bottom flag(bool) bottom bottom))"},
		{update + "rec(t: rec(e: map('x': map('y': set(), x: bottom), x: s.a)), r: write(s.r, 1, x))", "rec(bottom bottom bottom bottom write(field4(state) int1 param2) bottom bottom rec(bottom bottom bottom map(namex map(namey set param2 bottom) param2 field2(state)) bottom))"},
		{query + "int = 7", "int7"}, {query + "int = -0", "int"}, {query + "int = i + 1 - i", "-(+(param int1) param)"}, {query + "bool = true", "bool1"}, {query + "bool = false", "bool"}, {query + "name = 'set'", "nameset"}, {query + "name = x", "param2"}, {query + "names = l", "param3"},
		{query + "bool = b or not b and false", "or(param1 and(not(param1) bool))"}, {query + "bool = i <= 1", "<=(param int1)"}, {query + "bool = i < 1", "<(param int1)"}, {query + "bool = 'x' in l", "in(namex param3)"},
		{query + "bool = i == 1", "==(param int1)"}, {query + "bool = b == (i == 1)", "==(param1 ==(param int1))"}, {query + "bool = x == 'x'", "==(param2 namex)"}, {query + "bool = keys(s.a) == l", "==(keys(field2(state)) param3)"}, {query + "bool = (if b then i else 1) == 2", "==(if(param1 param int1) int2)"},
		{query + "bool = s leq bottom", "leq(state bottom)"}, {query + "bool = bottom leq s.c", "leq(bottom field(state))"}, {query + "bool = s.t.g leq flag(true)", "leq(field2(field7(state)) flag(bool1))"}, {query + "bool = num(2) leq s.d", "leq(num(int2) field1(state))"}, {query + "bool = rec(c: num(1)) leq s", "leq(rec(num(int1) bottom bottom bottom bottom bottom bottom bottom) state)"},
		{query + "bool = (bottom join bottom) leq (bottom join s.c join num(1))", "leq(join(bottom bottom) join(join(bottom field(state)) num(int1)))"}, {query + "bool = (if b then bottom else num(1)) leq (if b then s.c else num(2))", "leq(if(param1 bottom num(int1)) if(param1 field(state) num(int2)))"},
		{query + "int = number(bottom join s.c)", "number(join(bottom field(state)))"}, {query + "int = number(s.c join num(3))", "number(join(field(state) num(int3)))"}, {query + "int = number(if b then bottom else s.d)", "number(if(param1 bottom field1(state)))"}, {query + "int = if b then 1 else i", "if(param1 int1 param)"},
		{query + "int = size(s.t.e['x'][x])", "size(at(at(field3(field7(state)) namex) param2))"}, {query + "int = size(s.t.u)", "size(field4(field7(state)))"},
		{query + "int = size(l)", "size(param3)"}, {query + "int = size(s.a)", "size(field2(state))"}, {query + "int = size(s.r)", "size(field4(state))"}, {query + "int = size(s.k)", "size(field6(state))"}, {query + "int = size(write(bottom, 0, 'x'))", "size(write(bottom int namex))"},
		{query + "int = sum(s.t.m)", "sum(field(field7(state)))"}, {query + "int = sum(s.t.n)", "sum(field1(field7(state)))"}, {query + "int = number(s.c) + number(s.d)", "+(number(field(state)) number(field1(state)))"}, {query + "int = number(second(s.p))", "number(second(field5(state)))"}, {query + "bool = on(first(s.p)) or on(s.t.g)", "or(on(first(field5(state))) on(field2(field7(state))))"},
		{query + "names = keys(s.a)", "keys(field2(state))"}, {query + "names = keys(s.k)", "keys(field6(state))"}, {query + "names = keys(s.t.u)", "keys(field4(field7(state)))"}, {query + "names = values(s.f)", "values(field3(state))"}, {query + "names = values(s.r)", "values(field4(state))"}, {query + "bool = conflict(s.f) or conflict(s.r)", "or(conflict(field3(state)) conflict(field4(state)))"},
	} {
		p := checked(t, object+c[0]+";")
		f := append(p.Updates, p.Queries...)[0]
		if short(f.Body) != c[1] {
			t.Errorf("%s: %s, not %s", c[0], short(f.Body), c[1])
		}
	}
}

// TestExpressionFaults covers P18.1 for the faults of the tables. ! stands in front of the first token of the place, and in front of an operator where its node is the place.
func TestExpressionFaults(t *testing.T) {
	for code, sources := range map[api.Errno][]string{
		api.ErrType: {
			update + "!1", update + "!true", update + "!'x'", update + "!x", update + "s!.c", update + "!size(l)", update + "!write(s.r, 1, 'x')", update + "1 !+ 1", update + "!i leq s", update + "if !1 then s else s", update + "if b then !1 else s", update + "if b then s else !1", update + "s join !x", update + "!x join s",
			update + "rec(c: num(!true))", update + "rec(c: !flag(true))", update + "rec(c: s!.d)", update + "rec(t: rec(g: flag(!1)))", update + "rec(f: one(!1))", update + "rec(f: one(!l))", update + "rec(k: set(!1))", update + "rec(k: set('x', !s))", update + "rec(k: set(x, !bottom))", update + "rec(a: map(!1: set()))", update + "rec(a: map(x: !1))", update + "rec(a: map(x: set(), !l: bottom))", update + "rec(p: pair(!num(1), num(2)))", update + "rec(p: pair(flag(b), !flag(b)))",
			update + "!pair(s, s)", update + "!flag(true)", update + "!num(1)", update + "!set('x')", update + "!map('x': s)", update + "!one('x')", update + "rec(c: !rec())", update + "rec(a: !set('x'))", update + "rec(k: !map())", update + "rec(f: !set('x'))", update + "rec(r: !set('x'))", update + "rec(t: !pair(bottom, bottom))", update + "rec(p: !rec())",
			update + "rec(r: write(!s, 1, x))", update + "rec(r: write(s.r, !x, 1))", update + "rec(r: write(s.r, 1, !1))", update + "rec(r: write(s!.f, 1, x))",
			query + "int = !bottom", query + "int = !true", query + "int = !s", query + "bool = !1", query + "name = !l", query + "names = !x", query + "int = !num(1)", query + "int = !rec()", query + "int = s !join s", query + "int = bottom !join bottom", query + "int = 1 !join 2", query + "bool = s !join 1",
			query + "int = 1 + !true", query + "int = !b + 1", query + "bool = !1 or b", query + "bool = b or !1", query + "bool = !1 and b", query + "bool = not !1", query + "bool = !b <= 1", query + "bool = 1 <= !b", query + "bool = !x < 1", query + "bool = 1 < !x", query + "bool = 1 !+ 1", query + "int = 1 !< 1", query + "int = !not b", query + "int = b !or b", query + "int = 1 !== 1", query + "int = x !in l", query + "int = s !leq s",
			query + "bool = !1 in l", query + "bool = !l in l", query + "bool = x in !x", query + "bool = x in s!.a", query + "bool = !s == s", query + "bool = !bottom == 1", query + "bool = !flag(b) == s.t.g", query + "bool = 1 == !true", query + "bool = x == !l", query + "bool = 1 == !s", query + "bool = 1 == !bottom", query + "bool = s!.c == s.c",
			query + "bool = bottom !leq bottom", query + "bool = bottom !leq num(1)", query + "bool = rec() !leq set()", query + "bool = !1 leq 1", query + "bool = !1 leq bottom", query + "bool = bottom leq !1", query + "bool = s leq !1", query + "bool = s leq s!.c", query + "bool = s.c leq s!.d", query + "bool = s.c leq !flag(true)", query + "bool = num(true) leq !1", query + "bool = (bottom join bottom) leq (s !leq s)",
			query + "int = number(bottom !join bottom)", query + "int = number(!bottom)", query + "int = number(!1 join s.c)", query + "int = number(bottom join !1)", query + "int = number(s.c join s!.d)", query + "int = number(!num(1))", query + "int = number(!if b then bottom else num(1))", query + "int = number(if !1 then bottom else num(1))", query + "int = number(if b then s.c else s!.d)", query + "int = !number(if b then 1 else i)", query + "int = number(if b then 1 else !bottom)", query + "int = number(if b then !bottom else 1)",
			query + "int = i!.c", query + "int = s.a!.c", query + "int = s.p!.c", query + "int = number(!bottom.c)", query + "int = s.a!['x']", query + "int = size(s!['x'])", query + "int = size(s.k!['x'])", query + "int = size(s.a[!1])", query + "int = size(s.a[!l])", query + "int = size(s.a[s!.a])", query + "int = size(!bottom['x'])", query + "int = size(l!['x'])",
			query + "int = !size(1)", query + "int = !size(x)", query + "int = !size(b)", query + "int = !size(s)", query + "int = !size(s.c)", query + "int = !size(s.f)", query + "int = !size(s.p)", query + "int = !size(s.t.g)", query + "int = size(!bottom)", query + "bool = !size(l)", query + "int = !sum(s.a)", query + "int = !sum(s.t.e)", query + "int = !sum(s.c)", query + "int = !sum(l)", query + "int = !number(s)", query + "int = !number(1)", query + "int = !number(s.t.g)", query + "int = !number(s.p)",
			query + "bool = !on(b)", query + "bool = !on(s.p)", query + "bool = !on(s.c)", query + "int = !on(s.t.g)", query + "names = !keys(l)", query + "names = !keys(s)", query + "names = !keys(s.f)", query + "names = !keys(s.r)", query + "int = !keys(s.a)", query + "names = !values(s.a)", query + "names = !values(s.k)", query + "names = !values(x)", query + "name = !values(s.f)", query + "bool = on(!first(s))", query + "bool = on(!first(s.t.g))", query + "bool = on(!first(1))", query + "int = number(!second(s))", query + "int = number(!second(s.c))", query + "int = !number(first(s.p))", query + "bool = !on(second(s.p))", query + "bool = !conflict(s.a)", query + "bool = !conflict(b)", query + "int = !conflict(s.f)", query + "int = !first(s.p)", query + "int = !second(s.p)",
		},
		api.ErrName: {
			update + "!y", update + "!k", update + "!o", update + "!f", update + "s join !y", update + "s!.z", update + "s!.m", update + "rec(!z: s)", update + "rec(c: num(1), !c: num(2))", update + "rec(c: s.c, d: s.d, !c: true)", update + "rec(!z: y)", update + "rec(c: num(!y))", update + "rec(a: map(!y: true))", update + "rec(k: set(x, !y))",
			query + "int = !y", query + "int = number(s!.z)", query + "int = s.t!.c", query + "int = size(s.a[!y])", query + "bool = !y == z", query + "bool = bottom leq !y", query + "bool = !y leq z", query + "bool = num(y) leq !z", query + "bool = !y or z", query + "int = if !y then y else y",
		},
		api.ErrArgument: {
			update + "!pair(s)", update + "!pair()", update + "!pair(y, y, y)", update + "!flag()", update + "!num(1, 2)", update + "!one()", update + "!write(s.r, 1)", update + "!write(y, y, y, y)", update + "s join !flag()", update + "!size(1, 2)", update + "rec(c: !num())",
			query + "int = !size(1, 2)", query + "int = !size()", query + "int = !sum()", query + "int = !number(y, y)", query + "bool = !on()", query + "names = !keys()", query + "names = !values(s, s)", query + "bool = on(!first())", query + "bool = on(!second(y, y))", query + "int = !conflict()", query + "int = !flag(1, 2)", query + "int = !one()", query + "bool = bottom leq !size()", query + "bool = !pair() == 1", query + "int = number(!num())",
		},
	} {
		for _, source := range sources {
			fails(t, object+source+";", code)
		}
	}
}

// TestWanted covers P18.1: the type that a caller expects, or nothing.
func TestWanted(t *testing.T) {
	count := sample.Bounds(api.Max, 0, 9)
	l := sample.Product(count, api.Lattice{Kind: api.Set})
	params := []api.Param{{Name: "s", Sort: api.SortInt}, {Name: "if", Sort: api.SortNames}}
	for _, c := range []struct {
		source string
		want   api.Type
		code   api.Errno
		at     int
		result string
	}{
		{"s", of(l), api.OK, 0, "state"}, {"s", none, api.OK, 0, "state"}, {"s", of(count), api.ErrType, 0, ""}, {"s", number, api.ErrType, 0, ""},
		{"bottom", of(l), api.OK, 0, "bottom"}, {"bottom", of(count), api.OK, 0, "bottom"}, {"bottom", none, api.ErrType, 0, ""}, {"bottom", names, api.ErrType, 0, ""},
		{"s.z", none, api.OK, 0, "field(state)"}, {"s.z", of(count), api.OK, 0, "field(state)"}, {"s.z", of(sample.Bounds(api.Max, 0, 8)), api.ErrType, 1, ""}, {"s.z", of(sample.Bounds(api.Min, 0, 9)), api.ErrType, 1, ""}, {"s.y", of(api.Lattice{Kind: api.Set}), api.OK, 0, "field1(state)"}, {"s.y", of(sample.Words(api.Set, "a")), api.ErrType, 1, ""},
		{"num(1)", of(count), api.OK, 0, "num(int1)"}, {"num(1)", of(sample.Bounds(api.Min, 3, 3)), api.OK, 0, "num(int1)"}, {"num(1)", none, api.ErrType, 0, ""}, {"num(1)", number, api.ErrType, 0, ""}, {"num(1)", of(l), api.ErrType, 0, ""},
		{"set()", of(sample.Closed([]string{"a"})), api.OK, 0, "set"}, {"set()", of(sample.Words(api.Flat)), api.ErrType, 0, ""}, {"rec(y: bottom)", of(l), api.OK, 0, "rec(bottom bottom)"}, {"rec(y: s.z)", of(l), api.ErrType, 8, ""},
		{"1", none, api.OK, 0, "int1"}, {"1", number, api.OK, 0, "int1"}, {"1", of(count), api.ErrType, 0, ""}, {"keys(s.y)", none, api.OK, 0, "keys(field1(state))"}, {"keys(s.y)", name, api.ErrType, 0, ""}, {"'a'", names, api.ErrType, 0, ""}, {"'a'", name, api.OK, 0, "namea"}, {"1 < 2", none, api.OK, 0, "<(int1 int2)"}, {"1 < 2", truth, api.OK, 0, "<(int1 int2)"},
		{"if true then bottom else s.z", none, api.OK, 0, "if(bool1 bottom field(state))"}, {"if true then bottom else bottom", none, api.ErrType, 0, ""}, {"if true then bottom else bottom", of(count), api.OK, 0, "if(bool1 bottom bottom)"}, {"if 1 then bottom else bottom", none, api.ErrType, 3, ""}, {"if true then 1 else 2", none, api.OK, 0, "if(bool1 int1 int2)"}, {"if true then 1 else true", none, api.ErrType, 20, ""}, {"if true then 1 else 2", truth, api.ErrType, 13, ""},
		{"s join bottom", none, api.OK, 0, "join(state bottom)"}, {"1 join 2", none, api.ErrType, 0, ""}, {"1 join 2", number, api.ErrType, 2, ""}, {"1 join 2", of(l), api.ErrType, 0, ""}, {"write(bottom, 1, 'x')", none, api.OK, 0, "write(bottom int1 namex)"}, {"write(bottom, 1, 'x')", of(api.Lattice{Kind: api.Register}), api.OK, 0, "write(bottom int1 namex)"},
		{"y", none, api.ErrName, 0, ""}, {"size()", none, api.ErrArgument, 0, ""}, {"pair()", none, api.ErrArgument, 0, ""},
	} {
		n, fault := parser.Expression(c.source)
		if fault.Code != api.OK {
			t.Fatalf("%s: %v", c.source, fault)
		}
		e, fault := types.Expression(l, params, c.want, n)
		if fault != (api.Fault{Code: c.code, At: c.at}) || fault.Code == api.OK && (short(e) != c.result || e.At != n.At) || fault.Code != api.OK && text(e) != text(api.Expr{}) {
			t.Errorf("%s with %v expected: %v, %s", c.source, c.want, fault, short(e))
		}
	}
	// Names that are keywords are like all others.
	for i, p := range params {
		e, fault := types.Expression(l, params, api.Type{Sort: p.Sort}, api.Node{Kind: api.NodeName, Text: p.Name, At: -7})
		if fault != (api.Fault{}) || text(e) != text(api.Expr{Op: api.XParam, Type: api.Type{Sort: p.Sort}, N: int64(i), At: -7}) {
			t.Errorf("%v: %v, %v", p, e, fault)
		}
	}
	if e, fault := types.Expression(l, params, none, api.Node{Kind: api.NodeName, Text: "set", At: 1 << 40}); fault != (api.Fault{Code: api.ErrName, At: 1 << 40}) || text(e) != text(api.Expr{}) {
		t.Errorf("%v, %v", e, fault)
	}
}
