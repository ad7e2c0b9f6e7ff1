package variance_test

import (
	"math/rand"
	"slices"
	"testing"

	"plexus/api"
	"plexus/eval"
	"plexus/join"
	"plexus/sample"
	"plexus/variance"
)

// outcome is the result of an expression in a state.
type outcome struct {
	d api.Datum
	v api.Value
}

// evaluate returns the result of an expression.
func evaluate(t *testing.T, x api.Expr, s api.Value, args []api.Datum) outcome {
	t.Helper()
	var o outcome
	var e api.Errno
	if x.Type.Sort == 0 {
		o.v, e = eval.Value(x, s, args)
	} else {
		o.d, e = eval.Datum(x, s, args)
	}
	if e != api.OK {
		t.Fatalf("%+v: %d", x, e)
	}
	return o
}

// atMost reports whether a result of an expression is at most another one.
func atMost(x api.Expr, a, b outcome) bool {
	switch x.Type.Sort {
	case 0:
		return join.Leq(x.Type.Lattice, a.v, b.v)
	case api.SortInt, api.SortBool:
		return a.d.N <= b.d.N
	case api.SortName:
		return a.d.Name == b.d.Name
	}
	return !slices.ContainsFunc(a.d.Names, func(s string) bool { return !slices.Contains(b.d.Names, s) })
}

// sound checks the variance of an expression against its results in two states, the second one of which is the greater one, and reports whether they differ.
func sound(t *testing.T, x api.Expr, v int, s, greater api.Value, args []api.Datum) bool {
	t.Helper()
	a, b := evaluate(t, x, s, args), evaluate(t, x, greater, args)
	grows, shrinks := atMost(x, a, b), atMost(x, b, a)
	if v == variance.Up && !grows || v == variance.Down && !shrinks || v == variance.Constant && !(grows && shrinks) {
		t.Fatalf("%+v has the variance %d, but %+v in %+v and %+v in %+v", x, v, a, s, b, greater)
	}
	return !grows || !shrinks
}

// some returns a random element; often it is the bottom, which is below most others.
func some(source *rand.Rand, l api.Lattice) api.Value {
	if source.Intn(4) > 0 {
		return sample.Element(source.Intn, l)
	}
	bottom, _ := join.JoinAll(l, nil)
	return bottom
}

// above returns a random element that is greater than or equal to s.
func above(source *rand.Rand, l api.Lattice, s api.Value) api.Value {
	greater, _ := join.Join(l, s, sample.Element(source.Intn, l))
	return greater
}

// TestSoundRows covers P20.4 for all rows of the table. Apart from a few, what is Up or Down is not constant.
func TestSoundRows(t *testing.T) {
	source := rand.New(rand.NewSource(3))
	l := described(t, object)
	each(t, func(row string, x api.Expr, want, _ int) {
		differ := 0
		for range 150 {
			s := some(source, l)
			if sound(t, x, want, s, above(source, l, s), sample.Arguments(source.Intn, params())) {
				differ++
			}
		}
		equal := slices.Contains([]string{"bottom leq s.c", "if on(s.f) then 0 else 0", "if on(s.f) then true else true", "if on(s.f) then false else false"}, row)
		if (want == variance.Up || want == variance.Down) && differ == 0 && !equal {
			t.Errorf("%s does not depend on the state", row)
		}
	})
}

// TestSoundMade covers P20.4 for random expressions and their parts.
func TestSoundMade(t *testing.T) {
	source := rand.New(rand.NewSource(4))
	differ, ops := [4]int{}, map[int]int{}
	for range 100 {
		for _, l := range sample.Objects() {
			m := sample.NewMaker(source.Intn, l)
			want := []api.Type{sample.Of(l), sample.Sort(1), sample.Sort(2), sample.Sort(3), sample.Sort(4)}[source.Intn(5)]
			for _, x := range parts(m.Make(want, sample.Sure, source.Intn(4)).Expr) {
				v := variance.Of(x)
				if v == variance.None || len(x.Kids) == 0 {
					continue
				}
				for range 8 {
					s := some(source, l)
					if sound(t, x, v, s, above(source, l, s), sample.Arguments(source.Intn, m.Params)) {
						differ[v]++
						ops[x.Op]++
					}
				}
			}
		}
	}
	if differ[variance.Up] < 5000 || differ[variance.Down] < 150 || len(ops) < 25 {
		t.Errorf("results that differ: %v, of the operations %v", differ, ops)
	}
}

// TestSoundFinite covers P20.4 for random expressions in all pairs of states of small lattices.
func TestSoundFinite(t *testing.T) {
	source := rand.New(rand.NewSource(5))
	for _, table := range sample.NewTables(sample.Finite()) {
		if len(table.All) > 12 {
			continue
		}
		for range 100 {
			m := sample.NewMaker(source.Intn, table.Lattice)
			args := sample.Arguments(source.Intn, m.Params)
			want := []api.Type{sample.Of(table.Lattice), sample.Sort(1), sample.Sort(2), sample.Sort(4)}[source.Intn(4)]
			x := m.Make(want, sample.Sure, 1+source.Intn(4)).Expr
			v := variance.Of(x)
			for i, s := range table.All {
				for k, greater := range table.All {
					if v != variance.None && table.Less(i, k) {
						sound(t, x, v, s, greater, args)
					}
				}
			}
		}
	}
}

// TestAccepted covers P20.4 for whole queries: what an accepted one returns never decreases.
func TestAccepted(t *testing.T) {
	source := rand.New(rand.NewSource(6))
	accepted, refused := 0, 0
	for range 40 {
		for _, l := range sample.Objects() {
			m := sample.NewMaker(source.Intn, l)
			f := api.Function{Name: "q", On: "o", Params: m.Params, Result: 1 + source.Intn(4)}
			f.Body = m.Make(sample.Sort(f.Result), sample.Sure, 1+source.Intn(4)).Expr
			if !variance.Monotone(f) {
				refused++
				continue
			}
			args := sample.Arguments(source.Intn, m.Params)
			s := some(source, l)
			var before outcome
			for i := range 6 {
				d, e := eval.Query(l, f, s, args)
				if e != api.OK || i > 0 && !atMost(f.Body, before, outcome{d: d}) {
					t.Fatalf("%+v: %d, %v in %v, %v before", f, e, d, s, before.d)
				}
				before.d, s = d, above(source, l, s)
			}
			accepted++
		}
	}
	if accepted < 1000 || refused < 300 {
		t.Errorf("%d accepted, %d refused", accepted, refused)
	}
}

// TestBlamedPart covers P20.3: the expression to blame is a part of the body.
func TestBlamedPart(t *testing.T) {
	source := rand.New(rand.NewSource(7))
	for range 40 {
		for _, l := range sample.Objects() {
			m := sample.NewMaker(source.Intn, l)
			f := api.Function{Name: "q", On: "o", Params: m.Params, Result: 1 + source.Intn(4)}
			f.Body = m.Make(sample.Sort(f.Result), sample.Sure, 1+source.Intn(4)).Expr
			if at := variance.Blame(f); !variance.Monotone(f) && !slices.ContainsFunc(parts(f.Body), func(x api.Expr) bool { return x.At == at }) {
				t.Fatalf("%+v: %d", f, at)
			}
		}
	}
}
