package types_test

import (
	"math"
	"math/rand"
	"slices"
	"testing"

	"plexus/api"
	"plexus/lattice"
	"plexus/sample"
	"plexus/types"
)

// TestSame covers P18.2.
func TestSame(t *testing.T) {
	flag, set := api.Lattice{Kind: api.Flag}, api.Lattice{Kind: api.Set}
	ab := []string{"a", "b"}
	list := []api.Type{
		none, number, truth, name, names, {Sort: 5}, {Sort: -1}, of(flag), of(set), of(sample.Words(api.Set, "a")), of(sample.Words(api.Set, ab...)), of(sample.Words(api.Set, "b", "a")), of(sample.Bounds(api.Max, 0, 1)), of(sample.Bounds(api.Max, 0, 2)), of(sample.Bounds(api.Max, -1, 1)), of(sample.Bounds(api.Min, 0, 1)),
		of(sample.MapOf(flag)), of(sample.MapOf(set)), of(sample.MapOf(flag, "a")), of(sample.Product(flag)), of(sample.Product(flag, flag)), of(sample.Lex(flag, flag)), of(sample.Closed(ab)), of(sample.Closed(ab, api.Rule{If: []string{"a"}, Then: "b"})), of(sample.Closed(ab, api.Rule{If: []string{"b"}, Then: "b"})), of(sample.Closed(ab, api.Rule{If: []string{"a"}, Then: "a"})), of(sample.Closed(ab, api.Rule{If: ab, Then: "b"})),
		{Sort: api.SortInt, Lattice: flag}, {Sort: api.SortBool, Lattice: flag}, of(api.Lattice{Kind: 11}), of(api.Lattice{Lo: 1}), of(api.Lattice{Kind: api.Flag, Parts: []api.Lattice{{}}}), of(sample.MapOf(sample.MapOf(flag))), of(sample.MapOf(sample.MapOf(set))),
	}
	for i, a := range list {
		for j, b := range list {
			if types.Same(a, b) != (i == j) {
				t.Errorf("%v and %v", a, b)
			}
		}
		b := a
		b.Lattice.Names, b.Lattice.Parts, b.Lattice.Rules = append([]string{}, a.Lattice.Names...), append([]api.Lattice{}, a.Lattice.Parts...), append([]api.Rule{}, a.Lattice.Rules...)
		if !types.Same(a, b) || !types.Same(b, a) {
			t.Errorf("%v with empty slices", a)
		}
	}
}

// adding returns the lattice of an object with the fields z: max(0, 9) and y: set, and an update of it.
func adding() (api.Lattice, api.Function) {
	l := sample.Product(sample.Bounds(api.Max, 0, 9), api.Lattice{Kind: api.Set})
	set := of(l.Parts[1])
	return l, api.Function{Name: "add", On: "o", Params: []api.Param{{Name: "x", Sort: api.SortName}, {Name: "i", Sort: api.SortInt}}, Body: api.Expr{Op: api.XJoin, Type: of(l), At: 3, Kids: []api.Expr{
		{Op: api.XState, Type: of(l), At: 4},
		{Op: api.XRec, Type: of(l), At: 5, Kids: []api.Expr{{Op: api.XBottom, Type: of(l.Parts[0]), At: 5}, {Op: api.XSet, Type: set, Kids: []api.Expr{{Op: api.XParam, Type: name}, {Op: api.XName, Type: name, Text: "set"}, {Op: api.XKeys, Type: names, Kids: []api.Expr{{Op: api.XField, Type: set, N: 1, Kids: []api.Expr{{Op: api.XState, Type: of(l)}}}}}}}}},
	}}}
}

// cloneExpr returns a copy of an expression, which shares no lists of kids with it.
func cloneExpr(e api.Expr) api.Expr {
	kids := e.Kids
	e.Kids = nil
	for _, kid := range kids {
		e.Kids = append(e.Kids, cloneExpr(kid))
	}
	return e
}

// TestValid covers P18.3: each condition but that on the body.
func TestValid(t *testing.T) {
	l, f := adding()
	check := func(want bool, change func(l *api.Lattice, f *api.Function)) {
		t.Helper()
		m, g := l, f
		g.Params, g.Body = slices.Clone(f.Params), cloneExpr(f.Body)
		change(&m, &g)
		before := text(g)
		if types.Valid(m, g) != want || text(g) != before {
			t.Errorf("%v for %v is valid: %v", g, m, !want)
		}
	}
	query := func(e api.Expr) func(l *api.Lattice, f *api.Function) {
		return func(_ *api.Lattice, f *api.Function) { f.Result, f.Body = e.Type.Sort, e }
	}
	check(true, func(l *api.Lattice, f *api.Function) {})
	for _, name := range []string{"a", "set", "s", "abcdefghij-12345"} {
		check(true, func(_ *api.Lattice, f *api.Function) { f.Name = name })
		check(true, func(_ *api.Lattice, f *api.Function) { f.On = name })
		check(true, func(_ *api.Lattice, f *api.Function) { f.Params[0].Name = name })
	}
	for _, name := range []string{"", "A", "1", "abcdefghij-123456", "a b"} {
		check(false, func(_ *api.Lattice, f *api.Function) { f.Name = name })
		check(false, func(_ *api.Lattice, f *api.Function) { f.On = name })
		check(false, func(_ *api.Lattice, f *api.Function) { f.Params[1].Name = name })
	}
	for _, sort := range []int{0, 5, -1, 1 << 40} {
		check(false, func(_ *api.Lattice, f *api.Function) { f.Params[1].Sort = sort })
		check(false, func(_ *api.Lattice, f *api.Function) { f.Params = append(f.Params, api.Param{Name: "z", Sort: sort}) })
	}
	for _, result := range []int{1, 2, 3, 4, 5, -1} {
		check(false, func(_ *api.Lattice, f *api.Function) { f.Result = result })
	}
	check(false, func(_ *api.Lattice, f *api.Function) { f.Params[1].Name = "x" })
	check(false, func(_ *api.Lattice, f *api.Function) { f.Params = nil })
	check(false, func(_ *api.Lattice, f *api.Function) { f.Params[0], f.Params[1] = f.Params[1], f.Params[0] })
	check(true, func(_ *api.Lattice, f *api.Function) {
		for _, name := range []string{"a", "b", "c", "d", "e", "f"} {
			f.Params = append(f.Params, api.Param{Name: name, Sort: 4})
		}
	})
	check(false, func(_ *api.Lattice, f *api.Function) {
		for _, name := range []string{"a", "b", "c", "d", "e", "f", "g"} {
			f.Params = append(f.Params, api.Param{Name: name, Sort: 4})
		}
	})
	for _, other := range append(sample.Invalid(), sample.Objects()...) {
		check(lattice.Equal(other, l), func(l *api.Lattice, _ *api.Function) { *l = other })
		state := api.Expr{Op: api.XState, Type: of(other)}
		check(lattice.Check(other) == api.OK, func(l *api.Lattice, f *api.Function) { *l, f.Body = other, state })
		check(lattice.Check(other) == api.OK, func(l *api.Lattice, f *api.Function) {
			*l, f.Body, f.Result = other, api.Expr{Op: api.XInt, Type: number}, api.SortInt
		})
	}
	for _, n := range []int64{0, -7, api.MaxNumber, -api.MaxNumber} {
		check(true, query(api.Expr{Op: api.XInt, Type: number, N: n}))
	}
	for _, n := range []int64{api.MaxNumber + 1, -api.MaxNumber - 1, math.MaxInt64, math.MinInt64} {
		check(false, query(api.Expr{Op: api.XInt, Type: number, N: n}))
		check(false, query(api.Expr{Op: api.XPlus, Type: number, Kids: []api.Expr{{Op: api.XInt, Type: number}, {Op: api.XInt, Type: number, N: n}}}))
	}
	for _, name := range []string{"", "A", "1", "abcdefghij-123456"} {
		check(false, query(api.Expr{Op: api.XName, Type: api.Type{Sort: api.SortName}, Text: name}))
	}
	for _, n := range []int64{0, 1, 2, -1} {
		check(n == 0 || n == 1, query(api.Expr{Op: api.XBool, Type: truth, N: n}))
		check(n == 0, query(api.Expr{Op: api.XParam, Type: name, N: n}))
		check(n == 1, query(api.Expr{Op: api.XParam, Type: number, N: n}))
		check(n == 0, query(api.Expr{Op: api.XNumber, Type: number, Kids: []api.Expr{{Op: api.XField, Type: of(l.Parts[0]), N: n, Kids: []api.Expr{{Op: api.XState, Type: of(l)}}}}}))
	}
	check(false, query(api.Expr{Op: api.XNumber, Type: number, Kids: []api.Expr{{Op: api.XField, Type: of(l.Parts[0])}}}))
	check(false, func(_ *api.Lattice, f *api.Function) { f.Body = api.Expr{} })
}

// TestMadeBodies covers P18.3: elaborations are bodies of functions, whatever their offsets, and what differs from them in one field is none.
func TestMadeBodies(t *testing.T) {
	source := rand.New(rand.NewSource(9))
	for range 15 {
		for _, l := range sample.Objects() {
			m := sample.NewMaker(source.Intn, l)
			f := api.Function{Name: "f", On: "o", Params: m.Params, Result: source.Intn(5)}
			want := of(l)
			if f.Result > 0 {
				want = api.Type{Sort: f.Result}
			}
			f.Body = m.Make(want, sample.Sure, source.Intn(4)).Expr
			if !types.Valid(l, f) {
				t.Fatalf("%v for %v", f, l)
			}
			for range 10 {
				g := f
				g.Body = cloneExpr(f.Body)
				e := one(m, exprs(&g.Body)...)
				e.At += one(m, 1, -1, 1000)
				if !types.Valid(l, g) {
					t.Fatalf("%v for %v: At counts", g, l)
				}
				if what := spoil(m, e); types.Valid(l, g) {
					t.Fatalf("%v for %v: %s", g, l, what)
				}
			}
		}
	}
}

// exprs returns pointers to all nodes of an expression.
func exprs(e *api.Expr) []*api.Expr {
	list := []*api.Expr{e}
	for i := range e.Kids {
		list = append(list, exprs(&e.Kids[i])...)
	}
	return list
}

// spoil changes an expression that is elaborated, so that it is no longer, and says what it has changed.
func spoil(m *sample.Maker, e *api.Expr) string {
	kid := one(m, api.Expr{Op: api.XInt, Type: number}, api.Expr{Op: api.XState, Type: of(m.Lattice)}, api.Expr{})
	switch m.Intn(8) {
	case 0:
		e.Op = one(m, 0, -1, 38, 99)
		return "Op"
	case 1:
		e.N = one(m, e.N+api.MaxNumber*3, e.N-api.MaxNumber*3)
		return "N"
	case 2:
		e.Text += one(m, "A", " ", "abcdefghij-123456")
		return "Text"
	case 3:
		e.Kids = append(e.Kids, kid)
		return "another kid"
	case 4:
		e.Type.Sort = one(m, e.Type.Sort+1, e.Type.Sort-1, 9)
		return "Sort"
	case 5:
		e.Type.Lattice = one(m, sample.Bounds(api.Max, -77, 77), sample.MapOf(e.Type.Lattice), api.Lattice{Kind: 11}, sample.Product(e.Type.Lattice, e.Type.Lattice, e.Type.Lattice), api.Lattice{Kind: api.Map, Names: []string{"q"}}, api.Lattice{Kind: api.Product, Names: []string{"c", "c"}})
		return "Lattice"
	case 6:
		e.Type.Lattice.Names = append(slices.Clone(e.Type.Lattice.Names), "zz")
		return "Names"
	}
	if e.Op == api.XSet || len(e.Kids) == 0 {
		e.Op = api.XIf
		return "Op"
	}
	e.Kids = e.Kids[1:]
	return "a kid less"
}

// TestProgram covers P18.4 and the error of Tree: each condition.
func TestProgram(t *testing.T) {
	made := func() api.Program {
		return checked(t, "object d: flag; object o: set; object r: map set; update add(x: name) on o = s join set(x); update put() on d = flag(true); query has(x: name) on o: bool = x in keys(s); query size-of(x: name) on r: int = size(s[x]);")
	}
	flag := api.Lattice{Kind: api.Flag}
	state := func(name, on string) api.Function {
		return api.Function{Name: name, On: on, Body: api.Expr{Op: api.XState, Type: of(flag)}}
	}
	one := func(name, on string) api.Function {
		return api.Function{Name: name, On: on, Result: api.SortInt, Body: api.Expr{Op: api.XInt, Type: number, N: 1}}
	}
	for i, change := range []func(p *api.Program){
		func(p *api.Program) {}, func(p *api.Program) { *p = api.Program{} }, func(p *api.Program) { p.Updates, p.Queries = nil, nil }, func(p *api.Program) { p.Updates = append(p.Updates, state("set", "d")) }, func(p *api.Program) { p.Queries = append(p.Queries, one("xx", "r")) },
		func(p *api.Program) { p.Objects = append(p.Objects, api.Object{Name: "s", Lattice: flag}) }, func(p *api.Program) { p.Updates[0].Name = "ae" }, func(p *api.Program) { p.Updates[0].Body.At = -9 },
	} {
		p := made()
		change(&p)
		tree, e := types.Tree(p)
		if !types.Program(p) || e != api.OK {
			t.Errorf("case %d: no program", i)
		}
		if again, fault := types.Check(tree); fault != (api.Fault{}) || text(again) != text(p) {
			t.Errorf("case %d: %v, %v", i, fault, again)
		}
	}
	for i, change := range []func(p *api.Program){
		func(p *api.Program) { p.Objects[0], p.Objects[1] = p.Objects[1], p.Objects[0] }, func(p *api.Program) { p.Updates[0], p.Updates[1] = p.Updates[1], p.Updates[0] }, func(p *api.Program) { p.Queries[0], p.Queries[1] = p.Queries[1], p.Queries[0] },
		func(p *api.Program) { p.Objects = append(p.Objects, api.Object{Name: "r", Lattice: flag}) }, func(p *api.Program) { p.Objects = append(p.Objects, api.Object{Name: "s"}) }, func(p *api.Program) {
			p.Objects = append(p.Objects, api.Object{Name: "s", Lattice: sample.Invalid()[4]})
		}, func(p *api.Program) { p.Objects = append(p.Objects, api.Object{Name: "z z", Lattice: flag}) }, func(p *api.Program) { p.Objects = append([]api.Object{{Lattice: flag}}, p.Objects...) }, func(p *api.Program) { p.Objects = p.Objects[1:] }, func(p *api.Program) { p.Objects = nil },
		func(p *api.Program) { p.Objects[0].Name = "add" }, func(p *api.Program) { p.Objects[2].Name = "size-of" }, func(p *api.Program) { p.Updates[1].Name = "has" }, func(p *api.Program) { p.Updates[1].Name = "size-of" }, func(p *api.Program) { p.Queries[0].Name = "add" }, func(p *api.Program) { p.Queries[1].Name = "o" }, func(p *api.Program) { p.Updates[1].Name = "add" }, func(p *api.Program) { p.Queries[0].Name = "size-of" },
		func(p *api.Program) { p.Updates[0].Name = "" }, func(p *api.Program) { p.Queries[1].Name = "z z" }, func(p *api.Program) { p.Updates[0].On = "p" }, func(p *api.Program) { p.Updates[0].On = "d" }, func(p *api.Program) { p.Updates[0].On = "" }, func(p *api.Program) { p.Queries[0].On = "d" }, func(p *api.Program) { p.Queries[0].On = "add" },
		func(p *api.Program) { p.Updates[0].Result = 1 }, func(p *api.Program) { p.Queries[0].Result = 0 }, func(p *api.Program) { p.Queries[0].Result = 1 }, func(p *api.Program) { p.Queries[0].Result = 5 }, func(p *api.Program) { p.Updates = append(p.Updates, one("z", "o")) }, func(p *api.Program) { p.Queries = append(p.Queries, state("z", "d")) },
		func(p *api.Program) { p.Updates[0].Body.Kids = p.Updates[0].Body.Kids[:1] }, func(p *api.Program) { p.Updates[0].Params[0].Sort = 1 }, func(p *api.Program) { p.Updates[0].Params[0].Name = "" }, func(p *api.Program) { p.Queries[1].Body = api.Expr{} },
	} {
		p := made()
		change(&p)
		if types.Program(p) {
			t.Errorf("case %d: %v is a program", i, p)
		}
		if tree, e := types.Tree(p); e != api.ErrArgument || text(tree) != text(api.Node{}) {
			t.Errorf("case %d: %v, %d", i, tree, e)
		}
	}
}

// TestProgramLimit covers P18.4: objects, updates and queries count together.
func TestProgramLimit(t *testing.T) {
	flag := api.Lattice{Kind: api.Flag}
	for _, kind := range []int{0, 1, 2, 3} {
		p := api.Program{Objects: []api.Object{{Name: "a", Lattice: flag}}}
		for i := range 64 {
			name := string([]byte{'b', byte('a' + i/26), byte('a' + i%26)})
			switch (kind + i*(kind/3)) % 3 {
			case 0:
				p.Objects = append(p.Objects, api.Object{Name: name, Lattice: flag})
			case 1:
				p.Updates = append(p.Updates, api.Function{Name: name, On: "a", Body: api.Expr{Op: api.XState, Type: of(flag)}})
			case 2:
				p.Queries = append(p.Queries, api.Function{Name: name, On: "a", Result: api.SortInt, Body: api.Expr{Op: api.XInt, Type: number}})
			}
			if types.Program(p) != (i < 63) {
				t.Errorf("kind %d, %d declarations", kind, i+2)
			}
		}
		if _, e := types.Tree(p); e != api.ErrArgument {
			t.Errorf("kind %d: %d", kind, e)
		}
	}
}
