package eval_test

import (
	"math/rand"
	"slices"
	"testing"

	"plexus/api"
	"plexus/eval"
	"plexus/sample"
	"plexus/types"
	"plexus/value"
)

// parts returns all parts of an expression, itself among them.
func parts(x api.Expr) []api.Expr {
	list := []api.Expr{x}
	for _, kid := range x.Kids {
		list = append(list, parts(kid)...)
	}
	return list
}

// made is a random function with a state of its object and arguments for it.
type made struct {
	l    api.Lattice
	f    api.Function
	s    api.Value
	args []api.Datum
}

// call makes a random function on an object with the lattice l.
func call(source *rand.Rand, l api.Lattice, depth int) made {
	m := sample.NewMaker(source.Intn, l)
	c := made{l: l, f: api.Function{Name: "f", On: "o", Params: m.Params, Result: source.Intn(5)}, s: sample.Element(source.Intn, l), args: sample.Arguments(source.Intn, m.Params)}
	c.f.Body = m.Make(typeOf(l, c.f.Result), sample.Sure, depth).Expr
	return c
}

// calls checks random functions on many objects.
func calls(seed int64, count, depth int, check func(source *rand.Rand, c made)) {
	source := rand.New(rand.NewSource(seed))
	for range count {
		for _, l := range sample.Objects() {
			check(source, call(source, l, source.Intn(depth)))
		}
	}
}

// do returns the result of a function as a text, which is empty with an error.
func (c made) do(t *testing.T) string {
	t.Helper()
	v, e := eval.Update(c.l, c.f, c.s, c.args)
	d, f := eval.Query(c.l, c.f, c.s, c.args)
	switch {
	case c.f.Result == 0 && e == api.OK && f == api.ErrArgument && text(d) == text(api.Datum{}):
		return text(v)
	case c.f.Result != 0 && e == api.ErrArgument && f == api.OK && text(v) == text(api.Value{}):
		return text(plain(d))
	}
	t.Fatalf("%+v: %d, %d", c, e, f)
	return ""
}

// TestReference covers P19.2 and P19.3: all parts of random functions, and the functions themselves.
func TestReference(t *testing.T) {
	ops, different := map[int]int{}, map[string]bool{}
	calls(1, 200, 5, func(source *rand.Rand, c made) {
		before := text(c)
		r := reference{c.s, c.args}
		for _, x := range parts(c.f.Body) {
			got := ""
			if x.Type.Sort == 0 {
				v, e := eval.Value(x, c.s, c.args)
				if got = text(v); e != api.OK {
					t.Fatalf("%+v: %d", x, e)
				}
			} else {
				d, e := eval.Datum(x, c.s, c.args)
				if got = text(plain(d)); e != api.OK || d.Sort != x.Type.Sort {
					t.Fatalf("%+v: %d, %v", x, e, d)
				}
			}
			if want := text(r.of(x)); got != want {
				t.Fatalf("%+v in %+v with %+v is %s, not %s", x, c.s, c.args, got, want)
			}
			ops[x.Op]++
			different[got] = true
		}
		if got, want := c.do(t), text(r.of(c.f.Body)); got != want {
			t.Fatalf("%+v: %s, not %s", c, got, want)
		}
		if text(c) != before {
			t.Fatalf("%s has become %+v", before, c)
		}
	})
	for op := api.XInt; op <= api.XConflict; op++ {
		if ops[op] < 50 {
			t.Errorf("the operation %d occurs %d times", op, ops[op])
		}
	}
	if len(different) < 1000 {
		t.Errorf("only %d different results", len(different))
	}
}

// TestResults covers P19.5: evaluation succeeds, the result of an update is an element of l, and that of a query can be an argument of its sort.
func TestResults(t *testing.T) {
	calls(2, 60, 6, func(source *rand.Rand, c made) {
		if c.f.Result == 0 {
			if v, e := eval.Update(c.l, c.f, c.s, c.args); e != api.OK || !value.Valid(c.l, v) {
				t.Fatalf("%+v: %d, %v", c, e, v)
			}
			return
		}
		d, e := eval.Query(c.l, c.f, c.s, c.args)
		if e != api.OK || eval.Arguments([]api.Param{{Sort: c.f.Result}}, []api.Datum{d}) != api.OK {
			t.Fatalf("%+v: %d, %v", c, e, d)
		}
	})
}

// TestWithoutState covers P19.4 and P19.5: a function whose body does not contain the state has the same result in all states.
func TestWithoutState(t *testing.T) {
	counts := map[bool]int{}
	calls(3, 60, 4, func(source *rand.Rand, c made) {
		reads := slices.ContainsFunc(parts(c.f.Body), func(x api.Expr) bool { return x.Op == api.XState })
		if eval.Reads(c.f.Body) != reads {
			t.Fatalf("%+v reads: %v", c.f.Body, !reads)
		}
		first := c.do(t)
		for range 5 {
			c.s = sample.Element(source.Intn, c.l)
			if c.do(t) != first {
				counts[reads]++
				if !reads {
					t.Fatalf("%+v: %s", c, first)
				}
			}
		}
		counts[!reads]++
	})
	if counts[true] < 1000 || counts[false] < 200 {
		t.Errorf("%v", counts)
	}
}

// TestUnusedArguments covers P19.5: arguments of parameters that the body does not contain have no effect.
func TestUnusedArguments(t *testing.T) {
	changed := 0
	calls(4, 60, 4, func(source *rand.Rand, c made) {
		first := c.do(t)
		used := map[int]bool{}
		for _, x := range parts(c.f.Body) {
			if x.Op == api.XParam {
				used[int(x.N)] = true
			}
		}
		other := sample.Arguments(source.Intn, c.f.Params)
		mixed := slices.Clone(other)
		for i := range used {
			mixed[i] = c.args[i]
		}
		c.args = mixed
		if c.do(t) != first {
			t.Fatalf("%+v: not %s", c, first)
		}
		c.args = other
		if c.do(t) != first {
			changed++
		}
	})
	if changed < 100 {
		t.Errorf("arguments have an effect only %d times", changed)
	}
}

// TestAnySource covers P19.3 on programs with several functions, whose bodies are parsed and checked.
func TestAnySource(t *testing.T) {
	p := program(t, "object cart: map max(0, 9); update put(k: name, n: int) on cart = s join map(k: num(n)); update more(k: name) on cart = s join map(k: num(number(s[k]) + 1)); query many(l: names) on cart: int = if size(l) < 2 then sum(s) else -1; query has(k: name) on cart: bool = k in keys(s) and not number(s[k]) <= 1;")
	if !types.Program(p) {
		t.Fatal("no program")
	}
	l, s := p.Objects[0].Lattice, api.Value{}
	more, put, has, many := p.Updates[0], p.Updates[1], p.Queries[0], p.Queries[1]
	for _, c := range []struct {
		f    api.Function
		args []api.Datum
		want string
	}{
		{put, []api.Datum{name("a"), number(3)}, "{a: 3}"}, {put, []api.Datum{name("a"), number(2)}, "{a: 3}"}, {put, []api.Datum{name("b"), number(-2)}, "{a: 3}"}, {more, []api.Datum{name("b")}, "{a: 3, b: 1}"}, {more, []api.Datum{name("b")}, "{a: 3, b: 2}"}, {put, []api.Datum{name("c"), number(api.MaxNumber)}, "{a: 3, b: 2, c: 9}"}, {more, []api.Datum{name("c")}, "{a: 3, b: 2, c: 9}"},
	} {
		v, e := eval.Update(l, c.f, s, c.args)
		if shown, f := value.Text(l, v); e != api.OK || f != api.OK || shown != c.want {
			t.Errorf("%s %v: %d, %s", c.f.Name, c.args, e, shown)
		}
		s = v
	}
	for _, c := range []struct {
		f    api.Function
		arg  api.Datum
		want string
	}{
		{many, set("a"), "14"}, {many, set("a", "b"), "-1"}, {has, name("b"), "true"}, {has, name("d"), "false"},
	} {
		if d, e := eval.Query(l, c.f, s, []api.Datum{c.arg}); e != api.OK || d.Sort != c.f.Result || shown(d) != c.want {
			t.Errorf("%s %v: %d, %v", c.f.Name, c.arg, e, d)
		}
	}
}
