package eval_test

import (
	"math"
	"math/rand"
	"testing"

	"plexus/api"
	"plexus/eval"
	"plexus/sample"
	"plexus/types"
	"plexus/value"
)

// TestErrors covers the errors of Update and Query (P19.3) in their order: each combination of functions, states and arguments, of which some are not valid.
func TestErrors(t *testing.T) {
	p := program(t, "object o: { c: max(0, 9), a: map set }; object b: flag; update put(k: name, n: int) on o = rec(c: num(n), a: map(k: set(k))); query has(k: name, n: int) on o: bool = k in keys(s.a) and n < number(s.c);")
	l, put, has := p.Objects[1].Lattice, p.Updates[0], p.Queries[0]
	states := map[api.Errno][]api.Value{
		api.OK:      {sample.Parts(sample.Number(9), sample.Keyed([]string{"x"}, sample.Named("p"))), sample.Parts(sample.Number(0), api.Value{})},
		api.ErrType: {{}, sample.Parts(sample.Number(10), api.Value{}), sample.Parts(sample.Number(1)), sample.Parts(sample.Number(1), sample.Keyed([]string{"x"}, api.Value{})), sample.Parts(sample.Number(1), sample.Named("x")), sample.Parts(api.Value{}, sample.Number(1)), {N: 1}},
	}
	lists := map[api.Errno][][]api.Datum{
		api.OK:          {{name("x"), number(1)}},
		api.ErrArgument: {nil, {name("x")}, {name("x"), number(1), number(1)}},
		api.ErrType:     {{number(1), name("x")}, {name("x"), truth(true)}, {name("x"), {Sort: api.SortInt, Name: "x"}}, {number(1), number(api.MaxNumber + 1)}},
		api.ErrRange:    {{name("x"), number(api.MaxNumber + 1)}, {name("x"), number(math.MinInt64)}},
		api.ErrName:     {{name("X"), number(1)}, {name(""), number(api.MaxNumber + 1)}},
	}
	for stateError, some := range states {
		for _, s := range some {
			for listError, all := range lists {
				for _, args := range all {
					want := stateError
					if want == api.OK {
						want = listError
					}
					fails(t, l, put, s, args, want, api.ErrArgument)
					fails(t, l, has, s, args, api.ErrArgument, want)
					for _, f := range refused(put, has) {
						fails(t, l, f, s, args, api.ErrArgument, api.ErrArgument)
					}
					for _, other := range append(sample.Invalid(), l.Parts[0], sample.Product(l.Parts...), api.Lattice{Kind: api.Flag}) {
						fails(t, other, put, s, args, api.ErrArgument, api.ErrArgument)
						fails(t, other, has, s, args, api.ErrArgument, api.ErrArgument)
					}
				}
			}
		}
	}
}

// refused returns functions that are not valid, made of an update and a query that are.
func refused(put, has api.Function) []api.Function {
	var list []api.Function
	for _, f := range []api.Function{put, has} {
		for _, change := range []func(f *api.Function){
			func(f *api.Function) { f.Name = "" }, func(f *api.Function) { f.On = "A" }, func(f *api.Function) { f.Params = f.Params[:1] }, func(f *api.Function) { f.Params = []api.Param{f.Params[0], f.Params[0]} }, func(f *api.Function) { f.Params = []api.Param{f.Params[0], {Name: "n", Sort: 5}} },
			func(f *api.Function) { f.Result = 5 }, func(f *api.Function) { f.Result = -1 }, func(f *api.Function) { f.Result = api.SortInt }, func(f *api.Function) { f.Result = (f.Result + 2) % 4 }, func(f *api.Function) { f.Body = api.Expr{} }, func(f *api.Function) { f.Body.Kids = f.Body.Kids[:1] }, func(f *api.Function) { f.Body.N = 1 }, func(f *api.Function) { f.Body.Type = sample.Sort(api.SortName) },
		} {
			g := f
			change(&g)
			list = append(list, g)
		}
	}
	return list
}

// fails checks the errors of Update and of Query, and that there is no result with an error.
func fails(t *testing.T, l api.Lattice, f api.Function, s api.Value, args []api.Datum, update, query api.Errno) {
	t.Helper()
	v, e := eval.Update(l, f, s, args)
	if e != update || e != api.OK && text(v) != text(api.Value{}) {
		t.Errorf("Update of %s in %v with %v: %d, %v, not %d", f.Name, s, args, e, v, update)
	}
	d, e := eval.Query(l, f, s, args)
	if e != query || e != api.OK && text(d) != text(api.Datum{}) {
		t.Errorf("Query of %s in %v with %v: %d, %v, not %d", f.Name, s, args, e, d, query)
	}
}

// TestSpoiled covers the errors of Update and Query for random functions, of which one part is spoiled.
func TestSpoiled(t *testing.T) {
	counts := map[bool]int{}
	calls(5, 10, 4, func(source *rand.Rand, c made) {
		for range 5 {
			g := c.f
			g.Body = spoiled(source, g.Body)
			valid := types.Valid(c.l, g)
			counts[valid]++
			update, query := api.ErrArgument, api.ErrArgument
			if valid && g.Result == 0 {
				update = api.OK
			} else if valid {
				query = api.OK
			}
			fails(t, c.l, g, c.s, c.args, update, query)
			// A state that is no element is an error only if there is none before.
			if other := sample.AnyValue(source.Intn, 2); valid && !value.Valid(c.l, other) {
				if g.Result == 0 {
					fails(t, c.l, g, other, c.args, api.ErrType, api.ErrArgument)
				} else {
					fails(t, c.l, g, other, c.args, api.ErrArgument, api.ErrType)
				}
			}
		}
	})
	if counts[true] < 20 || counts[false] < 1000 {
		t.Errorf("%v", counts)
	}
}

// spoiled returns an expression with another part in place of one of its parts.
func spoiled(source *rand.Rand, x api.Expr) api.Expr {
	if len(x.Kids) > 0 && source.Intn(3) > 0 {
		kids := append([]api.Expr{}, x.Kids...)
		i := source.Intn(len(kids))
		kids[i] = spoiled(source, kids[i])
		x.Kids = kids
		return x
	}
	switch source.Intn(6) {
	case 0:
		x.Kids = append([]api.Expr{}, x.Kids...)
		x.Kids = x.Kids[:source.Intn(len(x.Kids)+1)]
	case 1:
		x.N += int64(source.Intn(5)) - 2
	case 2:
		x.Op += source.Intn(5) - 2
	case 3:
		x.Type = sample.Sort(source.Intn(5))
	case 4:
		x.Type.Lattice = sample.AnyLattice(source.Intn, 2)
	default:
		x = sample.AnyExpr(source.Intn, 2)
	}
	return x
}

// TestTypeErrors covers the errors of Datum and Value, also for expressions that are no elaborations.
func TestTypeErrors(t *testing.T) {
	source := rand.New(rand.NewSource(6))
	for range 5000 {
		x, s := sample.AnyExpr(source.Intn, 2), sample.AnyValue(source.Intn, 2)
		args := []api.Datum{sample.AnyDatum(source.Intn), sample.AnyDatum(source.Intn)}
		for sort := range 5 {
			x.Type = sample.Sort(sort)
			if sort == 0 {
				x.Type.Lattice = api.Lattice{Kind: 1 + source.Intn(10)}
			}
			d, e := eval.Datum(x, s, args)
			v, f := eval.Value(x, s, args)
			if (e == api.ErrType) != (sort == 0) || (f == api.ErrType) != (sort != 0) || e != api.OK && text(d) != text(api.Datum{}) || f != api.OK && text(v) != text(api.Value{}) {
				t.Fatalf("%+v: %d, %v, %d, %v", x, e, d, f, v)
			}
		}
	}
}
