package decide_test

import (
	"math/rand"
	"slices"
	"testing"

	"plexus/api"
	"plexus/decide"
	"plexus/finite"
	"plexus/sample"
	"plexus/types"
)

// fails checks the errors of all functions with errors: of those for updates, of Results, and of Monotone. With an error there is no result.
func fails(t *testing.T, c call, update, query, either api.Errno) {
	t.Helper()
	image, e := decide.Image(c.l, c.f, c.args)
	if e != update || e != api.OK && len(image) > 0 {
		t.Errorf("Image of %+v: %v, %d, not %d", c, image, e, update)
	}
	results, e := decide.Results(c.l, c.f, c.args)
	if e != query || e != api.OK && len(results) > 0 {
		t.Errorf("Results of %+v: %v, %d, not %d", c, results, e, query)
	}
	for property, ask := range questions() {
		want := update
		if property == monotone {
			want = either
		}
		if a, e := ask(c.l, c.f, c.args); e != want || e != api.OK && a != (decide.Answer{}) {
			t.Errorf("%s: %+v: %v, %d, not %d", property, c, a, e, want)
		}
	}
	if a, e := decide.Commute(c.l, c.f, c.args, c.f, c.args); e != update || e != api.OK && a != (decide.Answer{}) {
		t.Errorf("Commute of %+v: %v, %d, not %d", c, a, e, update)
	}
}

// lattices are descriptions with what is wrong with them.
func lattices() map[api.Errno][]api.Lattice {
	flag, set := api.Lattice{Kind: api.Flag}, api.Lattice{Kind: api.Set}
	return map[api.Errno][]api.Lattice{
		api.OK:          {sample.Bounds(api.Max, 0, 3), flag},
		api.ErrArgument: append(sample.Invalid(), sample.Product(set, api.Lattice{})),
		api.ErrType:     {set, {Kind: api.Flat}, {Kind: api.Register}, sample.MapOf(flag), sample.Product(flag, set), sample.Product(sample.Bounds(api.Max, 0, 1000), set)},
		api.ErrLimit:    {sample.Bounds(api.Max, 0, 256), sample.Bounds(api.Min, -1000000000, 1000000000), sample.Words(api.Set, "a", "b", "c", "d", "e", "f", "g", "h", "i"), sample.MapOf(sample.Bounds(api.Max, 0, 6), "a", "b", "c"), sample.Lex(sample.Bounds(api.Max, 0, 16), sample.Bounds(api.Max, 0, 15))},
	}
}

// lists are arguments for the parameters k: int and x: name, with what is wrong with them.
func lists() map[api.Errno][][]api.Datum {
	return map[api.Errno][][]api.Datum{
		api.OK:          {{number(1), name("a")}},
		api.ErrArgument: {nil, {number(1)}, {number(1), name("a"), name("a")}},
		api.ErrType:     {{name("a"), number(1)}, {number(1), set("a")}, {{Sort: api.SortInt, Name: "a"}, name("a")}},
		api.ErrRange:    {{number(api.MaxNumber + 1), name("a")}, {number(api.MaxNumber + 1), name("A")}},
		api.ErrName:     {{number(1), name("A")}, {number(1), name("")}},
	}
}

// changes make functions that are not valid.
func changes() []func(f *api.Function) {
	return []func(f *api.Function){
		func(f *api.Function) { f.Name = "" }, func(f *api.Function) { f.On = "A" }, func(f *api.Function) { f.Params = []api.Param{f.Params[0], f.Params[0]} }, func(f *api.Function) { f.Params = []api.Param{f.Params[0], {Name: "x", Sort: 5}} },
		func(f *api.Function) { f.Result = 5 }, func(f *api.Function) { f.Result = -1 }, func(f *api.Function) { f.Result = (f.Result + 1) % 5 }, func(f *api.Function) { f.Body = api.Expr{} }, func(f *api.Function) { f.Body.N = 9 }, func(f *api.Function) { f.Body.Type = sample.Sort(api.SortName) },
	}
}

// first returns the first error of a list.
func first(list ...api.Errno) api.Errno {
	for _, e := range list {
		if e != api.OK {
			return e
		}
	}
	return api.OK
}

// TestErrors covers the errors in their order: each combination of a description, a function and arguments, of which some are not valid.
func TestErrors(t *testing.T) {
	params := []api.Param{param("k", api.SortInt), param("x", api.SortName)}
	for latticeError, some := range lattices() {
		for _, l := range some {
			state := api.Expr{Op: api.XState, Type: sample.Of(l)}
			update := api.Function{Name: "f", On: "o", Params: params, Body: state}
			query := api.Function{Name: "f", On: "o", Params: params, Result: api.SortInt, Body: api.Expr{Op: api.XParam, Type: sample.Sort(api.SortInt)}}
			if latticeError == api.OK && (!types.Valid(l, update) || !types.Valid(l, query)) {
				t.Fatal("the functions are not valid")
			}
			if _, e := finite.Count(l); e != latticeError {
				t.Fatalf("%+v: %d", l, e)
			}
			for listError, all := range lists() {
				for _, args := range all {
					called, none := first(latticeError, listError), first(latticeError, api.ErrArgument)
					fails(t, call{l, update, args}, called, none, called)
					fails(t, call{l, query, args}, none, called, called)
					for _, change := range changes() {
						for _, f := range []api.Function{update, query} {
							change(&f)
							fails(t, call{l, f, args}, none, none, none)
						}
					}
				}
			}
		}
	}
}

// TestOtherLattice covers the errors for functions of objects with other lattices.
func TestOtherLattice(t *testing.T) {
	flag := api.Lattice{Kind: api.Flag}
	f := api.Function{Name: "f", On: "o", Body: api.Expr{Op: api.XState, Type: sample.Of(flag)}}
	fails(t, call{flag, f, nil}, api.OK, api.ErrArgument, api.OK)
	for _, l := range []api.Lattice{sample.Bounds(api.Max, 0, 1), sample.Product(flag), sample.Words(api.Set, "a")} {
		fails(t, call{l, f, nil}, api.ErrArgument, api.ErrArgument, api.ErrArgument)
	}
}

// TestCommuteErrors covers the order of the errors of Commute: those of the first update and its arguments before those of the second one.
func TestCommuteErrors(t *testing.T) {
	l := sample.Bounds(api.Max, 0, 3)
	params := []api.Param{param("k", api.SortInt), param("x", api.SortName)}
	valid := api.Function{Name: "f", On: "o", Params: params, Body: api.Expr{Op: api.XState, Type: sample.Of(l)}}
	functions := []api.Function{valid}
	for _, change := range changes() {
		f := valid
		change(&f)
		functions = append(functions, f)
	}
	for i, f := range functions {
		for k, g := range functions {
			for fError, some := range lists() {
				for gError, others := range lists() {
					want := first(fError, gError)
					if i > 0 {
						want = api.ErrArgument
					} else if k > 0 {
						want = first(fError, api.ErrArgument)
					}
					if a, e := decide.Commute(l, f, some[0], g, others[0]); e != want || a != (decide.Answer{Holds: e == api.OK}) {
						t.Errorf("%d with %d, %d with %d: %v, %d, not %d", i, fError, k, gError, a, e, want)
					}
				}
			}
		}
	}
	for latticeError, some := range lattices() {
		if latticeError == api.OK {
			continue
		}
		for _, other := range some {
			if a, e := decide.Commute(other, functions[1], nil, functions[1], nil); e != latticeError || a != (decide.Answer{}) {
				t.Errorf("%+v: %v, %d", other, a, e)
			}
		}
	}
}

// TestLimits covers P22.2 and P22.3 on lattices with as many elements as are supported.
func TestLimits(t *testing.T) {
	for _, c := range []struct {
		source, body                       string
		monotone, additive                 bool
		inflationary, idempotent, commutes bool
	}{
		{"max(0, 255)", "num(number(s) + 1)", true, true, true, false, true}, {"max(-255, 0)", "num(0 - number(s))", true, true, true, true, true}, {"min(0, 255)", "num(number(s) - 255)", true, true, true, true, true}, {"max(0, 255)", "num(255 - number(s))", false, false, false, false, true},
		{"set('a', 'b', 'c', 'd', 'e', 'f', 'g', 'h')", "if size(s) <= 6 then s else set('a', 'b', 'c', 'd', 'e', 'f', 'g', 'h')", true, false, true, true, true},
		{"{ a: flag, b: flag, c: flag, d: flag, e: flag, f: flag, g: flag, h: flag }", "rec(a: s.b, b: s.c, c: s.d, d: s.e, e: s.f, f: s.g, g: s.h, h: s.h)", true, true, false, false, true},
	} {
		l := described(t, c.source)
		q := call{l: l, f: function(t, l, 0, c.body)}
		image, e := decide.Image(l, q.f, nil)
		if e != api.OK || len(image) != finite.MaxValues {
			t.Errorf("%s: %d, %d states", c.body, e, len(image))
		}
		if q.ask(t, monotone).Holds != c.monotone || q.ask(t, additive).Holds != c.additive || q.ask(t, inflationary).Holds != c.inflationary || q.ask(t, idempotent).Holds != c.idempotent || commute(t, q, q).Holds != c.commutes {
			t.Errorf("%s on %s", c.body, c.source)
		}
		g := function(t, l, api.SortBool, "s leq bottom")
		if a := (call{l: l, f: g}).ask(t, monotone); a.Holds || len(image) > 0 && a.I == a.J {
			t.Errorf("%s: %v", c.source, a)
		}
	}
}

// TestDeep covers P1: functions with as many levels as the document allows.
func TestDeep(t *testing.T) {
	l := api.Lattice{Kind: api.Flag}
	typ, integer := sample.Of(l), sample.Sort(api.SortInt)
	node := func(op int, t api.Type, kids ...api.Expr) api.Expr { return api.Expr{Op: op, Type: t, Kids: kids} }
	update, query := api.Expr{Op: api.XState, Type: typ}, api.Expr{Op: api.XInt, Type: integer, N: 1}
	const levels = 50000
	for range levels {
		update = node(api.XJoin, typ, update, api.Expr{Op: api.XBottom, Type: typ})
		query = node(api.XPlus, integer, query, api.Expr{Op: api.XInt, Type: integer, N: 1})
	}
	u := call{l: l, f: api.Function{Name: "f", On: "o", Body: update}}
	for property := range questions() {
		if a := u.ask(t, property); !a.Holds {
			t.Errorf("%s: %v", property, a)
		}
	}
	q := call{l: l, f: api.Function{Name: "f", On: "o", Result: api.SortInt, Body: query}}
	if list, e := decide.Results(l, q.f, nil); e != api.OK || text(list) != text([]api.Datum{number(levels + 1), number(levels + 1)}) || !q.ask(t, monotone).Holds {
		t.Errorf("%d", e)
	}
}

// TestAnyFunction covers P1: all functions terminate without a panic for functions and arguments of all forms, and change none of them.
func TestAnyFunction(t *testing.T) {
	source := rand.New(rand.NewSource(8))
	counts := map[api.Errno]int{}
	all := finites()
	for range 3000 {
		c := anyCall(source, all[source.Intn(len(all))], source.Intn(5))
		switch source.Intn(5) {
		case 0:
			c.f.Body = sample.AnyExpr(source.Intn, 3)
		case 1:
			c.args = append(slices.Clone(c.args), sample.AnyDatum(source.Intn))[source.Intn(2):]
		case 2:
			c.l = sample.AnyLattice(source.Intn, 2)
		case 3:
			c.f.Result = source.Intn(7) - 1
		}
		before := text(c)
		_, e := decide.Image(c.l, c.f, c.args)
		counts[e]++
		_, e = decide.Results(c.l, c.f, c.args)
		counts[e]++
		for _, ask := range questions() {
			_, e := ask(c.l, c.f, c.args)
			counts[e]++
		}
		decide.Commute(c.l, c.f, c.args, c.f, c.args)
		if text(c) != before {
			t.Fatalf("%s has changed", before)
		}
	}
	for _, e := range []api.Errno{api.OK, api.ErrArgument, api.ErrType} {
		if counts[e] < 20 {
			t.Errorf("%v", counts)
		}
	}
}

// TestMemory covers the rules that results share no memory with arguments or with each other, and that nothing is kept.
func TestMemory(t *testing.T) {
	l := described(t, "set('a', 'b', 'c')")
	args := []api.Datum{set("x", "y")}
	for _, body := range []string{"keys(s)", "k", "if size(s) <= 1 then k else keys(s)"} {
		f := function(t, l, api.SortNames, body, param("k", api.SortNames))
		var all []api.Value
		want := ""
		for range 2 {
			list, e := decide.Results(l, f, args)
			if e != api.OK || want != "" && text(list) != want {
				t.Fatalf("%s: %d", body, e)
			}
			want = text(list)
			for _, d := range list {
				all = append(all, api.Value{Names: d.Names})
			}
		}
		if args[0].Names[0] != "x" || !sample.Overwrite(append(all, api.Value{Names: slices.Clone(args[0].Names)})) || text(args) != text([]api.Datum{set("x", "y")}) {
			t.Errorf("%s: memory is shared", body)
		}
	}
	f := function(t, l, 0, "s")
	first, _ := decide.Image(l, f, nil)
	second, _ := decide.Image(l, f, nil)
	for i := range first {
		first[i] = -1
	}
	third, _ := decide.Image(l, f, nil)
	if want := []int{0, 1, 2, 3, 4, 5, 6, 7}; !slices.Equal(second, want) || !slices.Equal(third, want) {
		t.Errorf("%v, %v", second, third)
	}
}
