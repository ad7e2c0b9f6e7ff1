package deltas_test

import (
	"math/rand"
	"testing"

	"plexus/api"
	"plexus/copies"
	"plexus/deltas"
	"plexus/sample"
)

// levels is nearly the number of levels that the document allows.
const levels = 60000

// TestMemory covers the rule that results share no memory with arguments or with each other.
func TestMemory(t *testing.T) {
	calls(t, 10, 20, func(_ *rand.Rand, c call) {
		l, f, s := copies.Lattice(c.l), copies.Function(c.f), sample.Clone(c.s)
		d, _ := deltas.Derive(l, f)
		again, _ := deltas.Derive(l, f)
		v, _ := deltas.Delta(l, f, s, c.args)
		w, _ := deltas.Delta(l, f, s, c.args)
		x, _ := deltas.Least(l, f, s, c.args)
		y, _ := deltas.Least(l, f, s, c.args)
		if !sample.Separate(l, f, s, c.args, d, again, v, w, x, y) {
			t.Fatalf("memory is shared, by the results of %+v", f)
		}
	})
}

// TestNothingKept covers the rule that nothing is kept from call to call: earlier results can be written over.
func TestNothingKept(t *testing.T) {
	calls(t, 11, 5, func(_ *rand.Rand, c call) {
		before := text(c)
		d, _ := deltas.Derive(c.l, c.f)
		v, _ := deltas.Delta(c.l, c.f, c.s, c.args)
		x, _ := deltas.Least(c.l, c.f, c.s, c.args)
		want := []string{text(d), text(v), text(x)}
		sample.Overwrite([]api.Value{v, x})
		d.Params[0].Name, d.Body.Type.Lattice = "zz", api.Lattice{}
		for i := range d.Body.Kids {
			d.Body.Kids[i] = api.Expr{}
		}
		d, _ = deltas.Derive(c.l, c.f)
		v, _ = deltas.Delta(c.l, c.f, c.s, c.args)
		x, _ = deltas.Least(c.l, c.f, c.s, c.args)
		if text(d) != want[0] || text(v) != want[1] || text(x) != want[2] || text(c) != before {
			t.Fatalf("%+v: not %v", c, want)
		}
	})
}

// node returns an expression with kids.
func node(op int, t api.Type, kids ...api.Expr) api.Expr {
	return api.Expr{Op: op, Type: t, Kids: kids}
}

// nested returns an expression with something put around it many times.
func nested(x api.Expr, around func(x api.Expr) api.Expr) api.Expr {
	for range levels {
		x = around(x)
	}
	return x
}

// TestDeep covers P1: updates with nearly as many levels as the document allows.
func TestDeep(t *testing.T) {
	set := sample.Of(api.Lattice{Kind: api.Set})
	s, empty, bottom := state(set.Lattice), node(api.XSet, set), node(api.XBottom, set)
	yes := api.Expr{Op: api.XBool, Type: sample.Sort(api.SortBool), N: 1}
	for i, c := range []struct {
		last   api.Expr
		around func(x api.Expr) api.Expr
		size   int
	}{
		{s, func(x api.Expr) api.Expr { return node(api.XJoin, set, x, s) }, 1}, {s, func(x api.Expr) api.Expr { return node(api.XJoin, set, s, x) }, 1}, {empty, func(x api.Expr) api.Expr { return node(api.XJoin, set, x, bottom) }, 1}, {empty, func(x api.Expr) api.Expr { return node(api.XJoin, set, x, empty) }, 2*levels + 1}, {empty, func(x api.Expr) api.Expr { return node(api.XJoin, set, empty, x) }, 2*levels + 1},
		{s, func(x api.Expr) api.Expr { return node(api.XIf, set, yes, x, s) }, 1}, {empty, func(x api.Expr) api.Expr { return node(api.XIf, set, yes, s, x) }, 3*levels + 1}, {s, func(x api.Expr) api.Expr { return node(api.XIf, set, yes, node(api.XJoin, set, x, empty), s) }, 4},
	} {
		if i == 7 {
			c.last = empty
			c.size = 5*levels + 1
		}
		f := api.Function{Name: "u", On: "o", Body: nested(c.last, c.around)}
		d, e := deltas.Derive(set.Lattice, f)
		if n := deltas.Size(d.Body); e != api.OK || n != c.size {
			t.Errorf("case %d: %d, the size %d, not %d", i, e, n, c.size)
		}
		for _, do := range []func(api.Lattice, api.Function, api.Value, []api.Datum) (api.Value, api.Errno){deltas.Delta, deltas.Least} {
			if v, e := do(set.Lattice, f, sample.Named("a"), nil); e != api.OK || len(v.Names) != 0 {
				t.Errorf("case %d: %d, %v", i, e, v)
			}
		}
	}
}

// TestDeepKeys covers P1: paths with long keys, which are compared in many places.
func TestDeepKeys(t *testing.T) {
	l := sample.MapOf(api.Lattice{Kind: api.Set})
	word := sample.Sort(api.SortName)
	yes := api.Expr{Op: api.XBool, Type: sample.Sort(api.SortBool), N: 1}
	leaf := func(s string) api.Expr { return api.Expr{Op: api.XName, Type: word, Text: s} }
	key := nested(leaf("x"), func(x api.Expr) api.Expr { return node(api.XIf, word, yes, leaf("x"), x) })
	other := nested(leaf("y"), func(x api.Expr) api.Expr { return node(api.XIf, word, yes, leaf("x"), x) })
	for i, k := range []api.Expr{key, other} {
		body := node(api.XMap, sample.Of(l), key, at(state(l), k))
		d, e := deltas.Derive(l, api.Function{Name: "u", On: "o", Body: body})
		if n := deltas.Size(d.Body); e != api.OK || n != []int{1, 6*levels + 5}[i] {
			t.Errorf("case %d: %d, the size %d", i, e, n)
		}
	}
}

// TestManyKids covers P1: maps with many entries.
func TestManyKids(t *testing.T) {
	l := sample.MapOf(api.Lattice{Kind: api.Set})
	body := node(api.XMap, sample.Of(l))
	const entries = 100000
	for i := range entries {
		key := api.Expr{Op: api.XName, Type: sample.Sort(api.SortName), Text: "n" + string([]byte{byte('a' + i%26), byte('a' + i/26%26), byte('a' + i/676%26), byte('a' + i/17576)})}
		part := at(state(l), key)
		if i%1000 == 0 {
			part = node(api.XSet, part.Type, key)
		}
		body.Kids = append(body.Kids, key, part)
	}
	f := api.Function{Name: "u", On: "o", Body: body}
	d, e := deltas.Derive(l, f)
	if e != api.OK || len(d.Body.Kids) != entries/1000*2 {
		t.Errorf("%d, %d keys and values", e, len(d.Body.Kids))
	}
	if v, e := deltas.Delta(l, f, api.Value{}, nil); e != api.OK || len(v.Names) != entries/1000 {
		t.Errorf("%d, %d keys", e, len(v.Names))
	}
}
