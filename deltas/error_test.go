package deltas_test

import (
	"math"
	"math/rand"
	"slices"
	"testing"

	"plexus/api"
	"plexus/deltas"
	"plexus/sample"
	"plexus/types"
	"plexus/value"
)

// fails checks the errors of the three functions, and that there is no result with an error.
func fails(t *testing.T, l api.Lattice, f api.Function, s api.Value, args []api.Datum, derive, delta api.Errno) {
	t.Helper()
	before := text(l) + text(f) + text(s) + text(args)
	d, e := deltas.Derive(l, f)
	if e != derive || e != api.OK && text(d) != text(api.Function{}) {
		t.Errorf("Derive of %+v: %d, %+v, not %d", f, e, d, derive)
	}
	for _, do := range []func(api.Lattice, api.Function, api.Value, []api.Datum) (api.Value, api.Errno){deltas.Delta, deltas.Least} {
		v, e := do(l, f, s, args)
		if e != delta || e != api.OK && text(v) != text(api.Value{}) {
			t.Errorf("%+v in %+v with %+v: %d, %+v, not %d", f, s, args, e, v, delta)
		}
	}
	if text(l)+text(f)+text(s)+text(args) != before {
		t.Errorf("%s has changed", before)
	}
}

// TestErrors covers the errors of P23.1 to P23.3 in their order: each combination of functions, states and arguments, of which some are not valid.
func TestErrors(t *testing.T) {
	l := described(t, "{ c: max(0, 9), a: map set }")
	f := update(t, l, "s join rec(c: num(i), a: map(x: set(l)))")
	f.Params = f.Params[:3]
	f.Params[1] = api.Param{Name: "l", Sort: api.SortNames}
	f.Body = update(t, l, "s join rec(c: num(i), a: map(x: set(x)))").Body
	number := func(n int64) api.Datum { return api.Datum{Sort: api.SortInt, N: n} }
	names := func(list ...string) api.Datum { return api.Datum{Sort: api.SortNames, Names: list} }
	states := map[api.Errno][]api.Value{
		api.OK:      {sample.Parts(sample.Number(9), sample.Keyed([]string{"x"}, sample.Named("p"))), sample.Parts(sample.Number(0), api.Value{})},
		api.ErrType: {{}, sample.Parts(sample.Number(10), api.Value{}), sample.Parts(sample.Number(1)), sample.Parts(sample.Number(1), sample.Keyed([]string{"x"}, api.Value{})), sample.Parts(sample.Number(1), sample.Named("x")), {N: 1}},
	}
	lists := map[api.Errno][][]api.Datum{
		api.OK:          {{number(1), names("a"), name("x")}},
		api.ErrArgument: {nil, {number(1)}, {number(1), names(), name("x"), name("x")}},
		api.ErrType:     {{name("x"), number(1), names()}, {number(1), names(), {Sort: api.SortName, Name: "x", N: 1}}, {names(), names(), name("X")}},
		api.ErrRange:    {{number(api.MaxNumber + 1), names(), name("x")}, {number(math.MinInt64), names("b", "a"), name("")}},
		api.ErrName:     {{number(1), names("b", "a"), name("x")}, {number(1), names(), name("X")}, {number(1), names(""), names()}},
	}
	for stateError, some := range states {
		for _, s := range some {
			for listError, all := range lists {
				for _, args := range all {
					want := stateError
					if want == api.OK {
						want = listError
					}
					fails(t, l, f, s, args, api.OK, want)
					for _, g := range refused(f) {
						fails(t, l, g, s, args, api.ErrArgument, api.ErrArgument)
					}
					for _, other := range append(sample.Invalid(), l.Parts[0], sample.Product(l.Parts...), described(t, "{ c: max(0, 8), a: map set }")) {
						fails(t, other, f, s, args, api.ErrArgument, api.ErrArgument)
					}
				}
			}
		}
	}
}

// refused returns functions that are not valid updates, made of one that is.
func refused(f api.Function) []api.Function {
	var list []api.Function
	for _, change := range []func(f *api.Function){
		func(f *api.Function) { f.Name = "" }, func(f *api.Function) { f.On = "A" }, func(f *api.Function) { f.Params = f.Params[:1] }, func(f *api.Function) { f.Params = append(slices.Clone(f.Params), f.Params[0]) }, func(f *api.Function) { f.Params = slices.Clone(f.Params); f.Params[1].Sort = 5 },
		func(f *api.Function) { f.Result = 5 }, func(f *api.Function) { f.Result = -1 }, func(f *api.Function) { f.Result = api.SortInt }, func(f *api.Function) { f.Result = api.SortNames },
		func(f *api.Function) { f.Body = api.Expr{} }, func(f *api.Function) { f.Body.Kids = f.Body.Kids[:1] }, func(f *api.Function) { f.Body.N = 1 }, func(f *api.Function) { f.Body.Text = "a" }, func(f *api.Function) { f.Body.Type = sample.Sort(api.SortName) },
		func(f *api.Function) { f.Body = state(api.Lattice{Kind: api.Flag}) }, func(f *api.Function) { f.Body.Op = api.XMap }, func(f *api.Function) { f.Body.Op = api.XRec; f.Body.Kids = append(f.Body.Kids, f.Body) },
		// A query that is valid.
		func(f *api.Function) {
			f.Result, f.Body = api.SortInt, api.Expr{Op: api.XInt, Type: sample.Sort(api.SortInt)}
		},
	} {
		g := f
		change(&g)
		list = append(list, g)
	}
	return list
}

// TestQueries covers the errors for queries that are valid.
func TestQueries(t *testing.T) {
	source := rand.New(rand.NewSource(7))
	for range 10 {
		for _, l := range sample.Objects() {
			m := sample.NewMaker(source.Intn, l)
			f := api.Function{Name: "q", On: "o", Params: m.Params, Result: 1 + source.Intn(4)}
			f.Body = m.Make(sample.Sort(f.Result), sample.Sure, source.Intn(4)).Expr
			if !types.Valid(l, f) {
				t.Fatalf("%+v is not valid", f)
			}
			fails(t, l, f, sample.Element(source.Intn, l), sample.Arguments(source.Intn, m.Params), api.ErrArgument, api.ErrArgument)
		}
	}
}

// TestSpoiled covers P1 and the errors for random updates of which parts are spoiled: those that are not valid are refused.
func TestSpoiled(t *testing.T) {
	counts := map[bool]int{}
	calls(t, 8, 20, func(source *rand.Rand, c call) {
		for range 4 {
			f := c.f
			f.Body = spoiled(source, f.Body)
			s := c.s
			if source.Intn(3) == 0 {
				s = sample.AnyValue(source.Intn, 2)
			}
			want := api.ErrArgument
			if counts[types.Valid(c.l, f)]++; types.Valid(c.l, f) {
				want = api.OK
			}
			other := want
			if want == api.OK && !value.Valid(c.l, s) {
				other = api.ErrType
			}
			fails(t, c.l, f, s, c.args, want, other)
			deltas.Size(f.Body)
		}
	})
	if counts[true] < 30 || counts[false] < 3000 {
		t.Errorf("%v", counts)
	}
}

// spoiled returns an expression with another part in place of one of its parts.
func spoiled(source *rand.Rand, x api.Expr) api.Expr {
	x.Kids = slices.Clone(x.Kids)
	if len(x.Kids) > 0 && source.Intn(3) > 0 {
		i := source.Intn(len(x.Kids))
		x.Kids[i] = spoiled(source, x.Kids[i])
		return x
	}
	switch source.Intn(6) {
	case 0:
		x.Kids = x.Kids[:source.Intn(len(x.Kids)+1)]
	case 1:
		x.N += int64(source.Intn(5)) - 2
	case 2:
		x.Op += source.Intn(5) - 2
	case 3:
		x.Type = sample.Sort(source.Intn(5))
	case 4:
		x.Type.Lattice = sample.AnyLattice(source.Intn, 2)
	default:
		x = sample.AnyExpr(source.Intn, 2)
	}
	return x
}

// TestAnyArguments covers P1: all functions terminate without a panic for arguments of all kinds.
func TestAnyArguments(t *testing.T) {
	source := rand.New(rand.NewSource(9))
	for range 20000 {
		l := sample.AnyLattice(source.Intn, 3)
		f := api.Function{Name: "u", On: "o", Params: []api.Param{{Name: "a", Sort: source.Intn(6)}}, Result: source.Intn(3) - 1, Body: sample.AnyExpr(source.Intn, 3)}
		want, delta := api.ErrArgument, api.ErrArgument
		if f.Body.Type.Lattice = l; f.Result == 0 && types.Valid(l, f) {
			want, delta = api.OK, api.ErrArgument
		}
		fails(t, l, f, sample.AnyValue(source.Intn, 2), nil, want, max(delta, want))
		if n := deltas.Size(f.Body); n != count(f.Body) {
			t.Fatalf("%+v has the size %d", f.Body, n)
		}
	}
}
