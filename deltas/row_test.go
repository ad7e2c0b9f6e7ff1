package deltas_test

import (
	"math/rand"
	"strconv"
	"strings"
	"testing"

	"plexus/api"
	"plexus/deltas"
	"plexus/eval"
	"plexus/irreducible"
	"plexus/sample"
	"plexus/value"
)

// rows returns lists of a lattice, and of bodies of updates with their derivatives in turn. A derivative of = is the body itself, without its offsets.
func rows() [][]string {
	return [][]string{
		{"{ c: max(0, 9), a: map set }", "s join rec(a: map(x: set(x)))", "rec(a: map(x: set(x)))", "rec(c: s.c, a: map(x: s.a[x] join set(x)))", "rec(a: map(x: set(x)))", "if 'x' in keys(s.a) then s else s join rec(c: num(1))", "if 'x' in keys(s.a) then bottom else rec(c: num(1))", "s join s", "bottom", "rec(c: num(number(s.c) + 1))", "=", "s", "bottom", "bottom", "bottom", "rec()", "bottom", "rec(c: s.c)", "bottom", "rec(a: s.a, c: s.c)", "bottom", "rec(c: bottom, a: map())", "bottom", "rec(a: map())", "bottom", "rec(a: map(x: s.a[x]))", "bottom",
			"rec(a: map('x': s.a['x'], 'y': s.a['x'], 'z': s.a['z']))", "rec(a: map('y': s.a['x']))", "rec(a: map(x: bottom, 'y': set('z'), x: set('y')))", "rec(a: map('y': set('z'), x: set('y')))", "rec(a: map(x: set('y'), 'y': s.a['y']))", "rec(a: map(x: set('y')))", "rec(a: map('x': s.a[x]))", "=", "rec(a: s.a join s.a)", "bottom", "rec(a: map(x: if b then s.a[x] else s.a['x']))", "rec(a: map(x: if b then bottom else s.a['x']))", "rec(a: map(x: if b then s.a[x] else bottom))", "bottom", "rec(a: map(x: s.a[x]) join map('y': set('z')), c: s.c)", "rec(a: map('y': set('z')))",
			"if b then s else s", "bottom", "if b then rec(c: s.c) else bottom", "bottom", "if b then bottom else rec(c: num(1))", "=", "if b then rec(c: num(1)) else s", "if b then rec(c: num(1)) else bottom", "if b then (if b then s else s join rec(a: s.a)) else s join bottom", "bottom", "(s join rec(c: num(1))) join (s join rec(c: num(2)))", "rec(c: num(1)) join rec(c: num(2))", "rec(c: num(1)) join s", "rec(c: num(1))", "rec(c: num(1)) join rec(c: num(1))", "=", "(if b then s else s) join rec(c: num(1))", "rec(c: num(1))", "rec(c: num(1)) join (if b then s else s)", "rec(c: num(1))",
			"rec(c: (s join rec(c: num(1))).c)", "=", "rec(c: (if b then s else s).c)", "=", "rec(c: s.c join num(i))", "rec(c: num(i))", "rec(c: num(number(s.c)))", "=", "rec(a: map(if b then x else 'y': s.a[if b then x else 'y']))", "bottom", "rec(a: map(if b then x else 'y': s.a[if b then x else 'z']))", "=", "rec(a: map(if b then x else 'y': s.a[if not b then x else 'y']))", "=", "rec(a: map(if size(s.a) < 3 then x else 'y': s.a[if size(s.a) < 3 then x else 'y']))", "bottom", "rec(a: map(if size(s.a) < 3 then x else 'y': s.a[if size(s.a) < 2 then x else 'y']))", "="},
		{"{ c: max(0, 9), d: max(0, 9), e: max(0, 8) }", "rec(c: s.d, d: s.c)", "=", "rec(c: s.c, d: s.c)", "rec(d: s.c)", "rec(c: s.d, d: s.d, e: s.e)", "rec(c: s.d)", "rec(c: s.d join s.c)", "rec(c: s.d)", "rec(d: s.d join s.c join s.d)", "rec(d: s.c)"},
		{"set", "s", "bottom", "s join set('x')", "set('x')", "set('x') join s", "set('x')", "set(keys(s))", "=", "set()", "=", "set() join s", "set()", "set() join bottom", "set()", "bottom join bottom", "bottom", "(if b then s else bottom) join set('x')", "set('x')", "set(x) join set(l)", "="},
		{"flag", "s join flag(b)", "flag(b)", "flag(on(s))", "=", "if on(s) then s else flag(true)", "if on(s) then bottom else flag(true)"}, {"flat", "one(x) join s", "one(x)"}, {"closed('a', 'b'; 'a' => 'b')", "set(keys(s)) join s", "set(keys(s))"}, {"min(0, 9)", "num(number(s) - 1)", "="},
		{"lex(max(0, 9), set)", "pair(first(s), second(s))", "=", "s join pair(num(1), set('x'))", "pair(num(1), set('x'))", "pair(first(s), second(s) join bottom)", "=", "pair(bottom, bottom)", "="},
		{"register", "s join write(s, 1, 'x')", "write(s, 1, 'x')", "write(s join bottom, 1, 'x')", "=", "write(s, 1, 'x') join s join write(s, 1, 'x')", "write(s, 1, 'x') join write(s, 1, 'x')"},
		{"map map set", "map(x: map('y': s[x]['y'] join set('z')))", "map(x: map('y': set('z')))", "map(x: s[x], 'y': map(x: s['y'][x]))", "bottom", "map(x: map(x: s['x'][x]))", "=", "map(x: map('x': s[x][x]))", "=", "map(x: map('x': s['x'][x]))", "=", "map(x: s[x] join map('y': s[x]['y']))", "bottom", "map('x': s['y'], 'y': s['y'], 'x': s['x'])", "map('x': s['y'])"},
		{"map('a', 'b') set", "map('c': s['c'], x: s[x])", "bottom", "map('c': set('x'))", "="},
		{"{ t: { a: set, b: flag }, m: map { a: set, b: flag } }", "rec(t: rec(a: s.t.a, b: flag(b)), m: map(x: rec(a: s.m[x].a join set(x), b: s.m[x].b)))", "rec(t: rec(b: flag(b)), m: map(x: rec(a: set(x))))", "rec(t: s.m['x'], m: map('x': s.t))", "=", "rec(m: map('x': s.m['x'], 'y': rec(a: s.m['x'].a)))", "rec(m: map('y': rec(a: s.m['x'].a)))", "rec(t: rec(a: s.t.a, b: s.t.b) join rec())", "bottom", "rec(t: rec(a: s.m['x'].a, b: s.t.b))", "rec(t: rec(a: s.m['x'].a))"},
		{"{ t: { a: set, b: set }, u: { a: set, b: set } }", "rec(t: rec(a: s.t.b, b: s.t.a))", "=", "rec(t: rec(a: s.u.a, b: s.u.b), u: s.t)", "=", "rec(t: rec(a: s.t.a, b: s.t.b), u: rec(a: s.u.a, b: s.t.b))", "rec(u: rec(b: s.t.b))"},
	}
}

// TestRows covers P23.1 for updates from sources: the chapter's examples among them.
func TestRows(t *testing.T) {
	for _, list := range rows() {
		l := described(t, list[0])
		for i := 1; i < len(list); i += 2 {
			f, want := update(t, l, list[i]), list[i+1]
			if want == "=" {
				want = list[i]
			}
			before := text(f)
			d, e := deltas.Derive(l, f)
			f.Body = update(t, l, want).Body
			if e != api.OK || text(without(d.Body)) != text(without(f.Body)) {
				t.Errorf("%s: %d, %+v, not that of %s", list[i], e, d.Body, want)
			}
			f.Body = d.Body
			if text(d) != text(f) {
				t.Errorf("%s: %+v", list[i], d)
			}
			f.Body = update(t, l, list[i]).Body
			if text(f) != before || text(d.Body) != text(derive(state(l), f.Body)) {
				t.Errorf("%s: %+v", list[i], d)
			}
		}
	}
}

// placed returns the operations and the offsets of an expression.
func placed(x api.Expr) string {
	s := map[int]string{api.XInt: "int", api.XName: "name", api.XParam: "param", api.XState: "s", api.XBottom: "bottom", api.XIf: "if", api.XJoin: "join", api.XField: "field", api.XAt: "at", api.XNum: "num", api.XSet: "set", api.XMap: "map", api.XRec: "rec"}[x.Op] + strconv.Itoa(x.At)
	var kids []string
	for _, kid := range x.Kids {
		kids = append(kids, placed(kid))
	}
	if len(kids) == 0 {
		return s
	}
	return s + "(" + strings.Join(kids, " ") + ")"
}

// TestOffsets covers P23.1: a derivative has the offsets of what it is made from, and so has each bottom that is made.
func TestOffsets(t *testing.T) {
	l := described(t, "{ c: max(0, 9), a: map set }")
	for source, want := range map[string]string{
		"s": "bottom0", " bottom": "bottom1", "s join s": "bottom7", "s join bottom": "bottom7", "bottom join s": "bottom12", "rec()": "bottom0", " rec(c: s.c)": "bottom1", "if b then s else s": "bottom0", "s join (if b then s else s)": "bottom8", "(s join s) join s": "bottom16", "s join (s join rec(c: num(1)))": "rec15(num22(int26) bottom15)",
		"rec(c: s.c, a: map(x: s.a[x] join set(x)))": "rec0(bottom8 map15(param19 set34(param38)))", "rec(a: s.a, c: num(1))": "rec0(num15(int19) bottom8)", "rec(c: num(1), a: map(x: s.a[x]))": "rec0(num7(int11) bottom18)", "rec(c: num(1), a: map())": "rec0(num7(int11) bottom18)", "rec(c: num(1), a: s.a join s.a)": "rec0(num7(int11) bottom28)",
		"if b then s else rec(c: num(1))": "if0(param3 bottom10 rec17(num24(int28) bottom17))", "rec(c: num(1)) join rec(c: num(2))": "join15(rec0(num7(int11) bottom0) rec20(num27(int31) bottom20))", "rec(a: map(x: set(x), 'y': s.a['y'], x: set('z')))": "rec0(bottom0 map7(param11 set14(param18) param37 set40(name44)))",
	} {
		if d, e := deltas.Derive(l, update(t, l, source)); e != api.OK || placed(d.Body) != want {
			t.Errorf("%s: %d, %s, not %s", source, e, placed(d.Body), want)
		}
	}
}

// TestDeltas covers P23.2 and P23.3 for updates from sources, the chapter's examples among them: the delta and the least delta in two states.
func TestDeltas(t *testing.T) {
	l := described(t, "{ c: max(0, 9), a: map set }")
	bottom := sample.Parts(sample.Number(0), api.Value{})
	full := sample.Parts(sample.Number(3), sample.Keyed([]string{"k"}, sample.Named("x", "y")))
	args := []api.Datum{{Sort: api.SortInt, N: 2}, {Sort: api.SortBool, N: 1}, name("x"), {Sort: api.SortNames, Names: []string{"x", "z"}}}
	for _, c := range []struct{ source, inBottom, leastInBottom, inFull, leastInFull string }{
		{"s join rec(a: map('k': set(x)))", "(c: 0, a: {k: {x}})", "(c: 0, a: {k: {x}})", "(c: 0, a: {k: {x}})", "(c: 0, a: {})"}, {"rec(c: s.c, a: map('k': s.a['k'] join set(x)))", "(c: 0, a: {k: {x}})", "(c: 0, a: {k: {x}})", "(c: 0, a: {k: {x}})", "(c: 0, a: {})"}, {"s join rec(a: map('k': set(l)))", "(c: 0, a: {k: {x,z}})", "(c: 0, a: {k: {x,z}})", "(c: 0, a: {k: {x,z}})", "(c: 0, a: {k: {z}})"},
		{"if 'k' in keys(s.a) then s else s join rec(c: num(1))", "(c: 1, a: {})", "(c: 1, a: {})", "(c: 0, a: {})", "(c: 0, a: {})"}, {"s join s", "(c: 0, a: {})", "(c: 0, a: {})", "(c: 0, a: {})", "(c: 0, a: {})"}, {"rec(c: num(number(s.c) + i))", "(c: 2, a: {})", "(c: 2, a: {})", "(c: 5, a: {})", "(c: 5, a: {})"}, {"rec(c: num(number(s.c) - i), a: s.a)", "(c: 0, a: {})", "(c: 0, a: {})", "(c: 1, a: {})", "(c: 0, a: {})"},
		{"bottom", "(c: 0, a: {})", "(c: 0, a: {})", "(c: 0, a: {})", "(c: 0, a: {})"}, {"rec(a: map(x: s.a['k'], 'k': set('q')))", "(c: 0, a: {k: {q}})", "(c: 0, a: {k: {q}})", "(c: 0, a: {k: {q}, x: {x,y}})", "(c: 0, a: {k: {q}, x: {x,y}})"}, {"s join rec(a: map('k': set('x'), 'k': set('q')), c: num(9))", "(c: 9, a: {k: {q,x}})", "(c: 9, a: {k: {q,x}})", "(c: 9, a: {k: {q,x}})", "(c: 9, a: {k: {q}})"},
	} {
		f := update(t, l, c.source)
		for i, want := range []string{c.inBottom, c.leastInBottom, c.inFull, c.leastInFull} {
			s := []api.Value{bottom, full}[i/2]
			v, e := []func(api.Lattice, api.Function, api.Value, []api.Datum) (api.Value, api.Errno){deltas.Delta, deltas.Least}[i%2](l, f, s, args)
			shown, _ := value.Text(l, v)
			if e != api.OK || shown != want {
				t.Errorf("%s, %d: %d, %s, not %s", c.source, i, e, shown, want)
			}
		}
	}
}

// TestRegister covers P23.2 and P23.3 for a register: what is written over is not sent.
func TestRegister(t *testing.T) {
	l := api.Lattice{Kind: api.Register}
	s := sample.Written(sample.Entry("p", 1, 1), sample.Entry("q", 2, 1))
	args := []api.Datum{{Sort: api.SortInt, N: 3}, {Sort: api.SortBool}, name("x"), {Sort: api.SortNames}}
	for _, source := range []string{"write(s, i, x)", "s join write(s, i, x)"} {
		for _, do := range []func(api.Lattice, api.Function, api.Value, []api.Datum) (api.Value, api.Errno){deltas.Delta, deltas.Least} {
			v, e := do(l, update(t, l, source), s, args)
			if shown, _ := value.Text(l, v); e != api.OK || shown != "[x@1:1.2:1.3:1]" {
				t.Errorf("%s: %d, %s", source, e, shown)
			}
		}
	}
}

// TestSize covers P23.4.
func TestSize(t *testing.T) {
	l := described(t, "{ c: max(0, 9), a: map set }")
	for source, want := range map[string]int{"s": 1, "bottom": 1, "rec()": 3, "s join s": 3, "rec(c: s.c)": 4, "if b then s else s": 4, "rec(a: map(x: set(x, 'y'), 'z': bottom))": 9, "rec(c: num(number(s.c) + 1))": 8} {
		if n := deltas.Size(update(t, l, source).Body); n != want {
			t.Errorf("%s has the size %d, not %d", source, n, want)
		}
	}
	if deltas.Size(api.Expr{}) != 1 || deltas.Size(api.Expr{Kids: []api.Expr{}}) != 1 || deltas.Size(api.Expr{Op: -1, N: 9, Kids: make([]api.Expr, 100000)}) != 100001 {
		t.Error("expressions that are none")
	}
}

// TestReference covers P23.1 to P23.4 on random updates.
func TestReference(t *testing.T) {
	kept, smaller, sizes := 0, 0, map[int]bool{}
	calls(t, 1, 150, func(source *rand.Rand, c call) {
		before := text(c)
		d, e := deltas.Derive(c.l, c.f)
		want := c.f
		want.Body = derive(state(c.l), c.f.Body)
		if e != api.OK || text(d) != text(want) {
			t.Fatalf("%+v has the derivative %d, %+v; not %+v", c.f.Body, e, d, want)
		}
		v, e := deltas.Delta(c.l, c.f, c.s, c.args)
		if result, _ := eval.Value(want.Body, c.s, c.args); e != api.OK || text(v) != text(result) {
			t.Fatalf("%+v in %+v: %d, %+v; not %+v", c.f.Body, c.s, e, v, result)
		}
		v, e = deltas.Least(c.l, c.f, c.s, c.args)
		after, _ := eval.Update(c.l, c.f, c.s, c.args)
		if result, _ := irreducible.Diff(c.l, after, c.s); e != api.OK || text(v) != text(result) {
			t.Fatalf("%+v in %+v: %d, %+v; not %+v", c.f.Body, c.s, e, v, result)
		}
		n, all := deltas.Size(d.Body), deltas.Size(c.f.Body)
		if n != count(d.Body) || all != count(c.f.Body) {
			t.Fatalf("%+v has the size %d, and %d", c.f.Body, all, n)
		}
		if sizes[n] = true; n == all {
			kept++
		} else {
			smaller++
		}
		if text(c) != before {
			t.Fatalf("%s has become %+v", before, c)
		}
	})
	if kept < 2000 || smaller < 2000 || len(sizes) < 40 {
		t.Errorf("%d are kept, %d are smaller, %d sizes", kept, smaller, len(sizes))
	}
}
