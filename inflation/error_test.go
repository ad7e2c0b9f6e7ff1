package inflation_test

import (
	"math"
	"math/rand"
	"slices"
	"testing"

	"plexus/api"
	"plexus/inflation"
	"plexus/sample"
	"plexus/types"
)

// refused checks that all functions refuse f with ErrType, without another result.
func refused(t *testing.T, l api.Lattice, f api.Function) {
	t.Helper()
	ok, e := inflation.Check(l, f)
	at, blameError := inflation.Blame(l, f)
	list, carryError := inflation.Carriers(l, f)
	if e != api.ErrType || ok || blameError != api.ErrType || at != 0 || carryError != api.ErrType || len(list) > 0 {
		t.Errorf("%+v: %v, %d; %d, %d; %v, %d", f, ok, e, at, blameError, list, carryError)
	}
}

// TestErrors covers the errors of Check, Blame and Carriers: functions that are not valid, whether they would be accepted or not, and queries.
func TestErrors(t *testing.T) {
	l := described(t, "{ a: set, c: max(0, 9) }")
	for _, source := range []string{"s", "bottom", "rec(a: s.a, c: num(number(s.c) + 1))", "rec(a: s.a)"} {
		f := update(t, l, source)
		compared(t, l, f)
		for _, change := range []func(f *api.Function){
			func(f *api.Function) { f.Name = "" }, func(f *api.Function) { f.Name = "A" }, func(f *api.Function) { f.On = "" }, func(f *api.Function) { f.Params = append(f.Params, f.Params[0]) }, func(f *api.Function) { f.Params = []api.Param{{Name: "n", Sort: 5}} }, func(f *api.Function) { f.Params = []api.Param{{Name: "N", Sort: 1}} },
			func(f *api.Function) { f.Result = api.SortInt }, func(f *api.Function) { f.Result = api.SortNames }, func(f *api.Function) { f.Result = 5 }, func(f *api.Function) { f.Result = -1 }, func(f *api.Function) { f.Result = math.MinInt },
			func(f *api.Function) { f.Body.Type.Sort = 1 }, func(f *api.Function) { f.Body.Type.Lattice = api.Lattice{} }, func(f *api.Function) { f.Body.N = 1 }, func(f *api.Function) { f.Body.Text = "a" }, func(f *api.Function) { f.Body.Op = 99 }, func(f *api.Function) { f.Body = api.Expr{} },
			func(f *api.Function) { f.Body.Kids = append(slices.Clone(f.Body.Kids), f.Body) },
		} {
			g := f
			change(&g)
			refused(t, l, g)
		}
		for _, other := range append(sample.Invalid(), l.Parts[0], described(t, "{ a: set, c: max(0, 8) }"), described(t, "{ a: set, d: max(0, 9) }"), api.Lattice{}) {
			refused(t, other, f)
		}
	}
	for _, l := range sample.Invalid() {
		refused(t, l, api.Function{Name: "u", On: "o", Body: api.Expr{Op: api.XState, Type: sample.Of(l)}})
	}
}

// TestQueries covers the errors for queries: also for one whose body would be accepted.
func TestQueries(t *testing.T) {
	source := rand.New(rand.NewSource(8))
	for range 10 {
		for _, l := range sample.Objects() {
			m := sample.NewMaker(source.Intn, l)
			f := api.Function{Name: "q", On: "o", Params: m.Params, Result: 1 + source.Intn(4)}
			f.Body = m.Make(sample.Sort(f.Result), sample.Sure, source.Intn(4)).Expr
			if !types.Valid(l, f) {
				t.Fatalf("%+v is not valid", f)
			}
			refused(t, l, f)
			f.Body = api.Expr{Op: api.XState, Type: sample.Of(l)}
			refused(t, l, f)
		}
	}
}

// TestAnyFunction covers P1 and the errors for functions of all forms: those that are not valid are refused.
func TestAnyFunction(t *testing.T) {
	counts := map[bool]int{}
	updates(t, 9, 15, func(source *rand.Rand, c made) {
		for range 4 {
			f := c.f
			f.Body = spoiled(source, f.Body)
			if valid := types.Valid(c.l, f); valid {
				counts[true]++
				compared(t, c.l, f)
			} else {
				counts[false]++
				refused(t, c.l, f)
				inflation.Covers(f.Body, nil)
			}
		}
	})
	if counts[true] < 20 || counts[false] < 1000 {
		t.Errorf("%v", counts)
	}
}

// spoiled returns an expression with another part in place of one of its parts.
func spoiled(source *rand.Rand, x api.Expr) api.Expr {
	if len(x.Kids) > 0 && source.Intn(3) > 0 {
		x.Kids = slices.Clone(x.Kids)
		i := source.Intn(len(x.Kids))
		x.Kids[i] = spoiled(source, x.Kids[i])
		return x
	}
	switch source.Intn(5) {
	case 0:
		x.Kids = x.Kids[:source.Intn(len(x.Kids)+1)]
	case 1:
		x.N += int64(source.Intn(5)) - 2
	case 2:
		x.Op += source.Intn(5) - 2
	case 3:
		x.Type = sample.Sort(source.Intn(5))
	default:
		x = sample.AnyExpr(source.Intn, 2)
	}
	return x
}

// TestMemory covers the rule that results share no memory with arguments or with each other, and that nothing is kept.
func TestMemory(t *testing.T) {
	l := described(t, "{ a: set, b: set }")
	f := update(t, l, "rec(a: s.a, b: s.b)")
	first, _ := inflation.Carriers(l, f)
	want := slices.Clone(first)
	second, _ := inflation.Carriers(l, f)
	for i := range first {
		first[i] = -1
	}
	third, _ := inflation.Carriers(l, f)
	if !slices.Equal(second, want) || !slices.Equal(third, want) {
		t.Errorf("%v, %v, not %v", second, third, want)
	}
}
