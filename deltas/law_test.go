package deltas_test

import (
	"math/rand"
	"testing"

	"plexus/api"
	"plexus/deltas"
	"plexus/eval"
	"plexus/join"
	"plexus/lattice"
	"plexus/sample"
	"plexus/types"
	"plexus/value"
)

// results returns the delta, the least delta and the new state of a call.
func (c call) results(t *testing.T) (delta, least, after api.Value) {
	t.Helper()
	delta, e := deltas.Delta(c.l, c.f, c.s, c.args)
	least, e2 := deltas.Least(c.l, c.f, c.s, c.args)
	after, e3 := eval.Update(c.l, c.f, c.s, c.args)
	if e != api.OK || e2 != api.OK || e3 != api.OK || !value.Valid(c.l, delta) || !value.Valid(c.l, least) {
		t.Fatalf("%+v: %d, %+v, %d, %+v, %d", c, e, delta, e2, least, e3)
	}
	return delta, least, after
}

// joined returns the join of two elements.
func joined(l api.Lattice, a, b api.Value) api.Value {
	v, _ := join.Join(l, a, b)
	return v
}

// TestDerivative covers P23.5: the derivative is a valid update with at most as many nodes, and its derivative is itself.
func TestDerivative(t *testing.T) {
	calls(t, 2, 100, func(_ *rand.Rand, c call) {
		d, _ := deltas.Derive(c.l, c.f)
		again, e := deltas.Derive(c.l, d)
		if !types.Valid(c.l, d) || d.Result != 0 || deltas.Size(d.Body) > deltas.Size(c.f.Body) || e != api.OK || text(again) != text(d) {
			t.Fatalf("%+v has the derivative %+v", c.f, d)
		}
	})
}

// TestEffect covers P23.5: joined with the state, the delta and the least delta have the effect of the new state, and they are not above this.
func TestEffect(t *testing.T) {
	counts := map[string]int{}
	calls(t, 3, 150, func(_ *rand.Rand, c call) {
		delta, least, after := c.results(t)
		effect := joined(c.l, c.s, after)
		inflated := join.Leq(c.l, c.s, after)
		for _, d := range []api.Value{delta, least} {
			next := joined(c.l, c.s, d)
			if !value.Equal(next, effect) || !join.Leq(c.l, d, after) || inflated && !value.Equal(next, after) {
				t.Fatalf("%+v in %+v with %+v: %+v makes %+v, not %+v", c.f.Body, c.s, c.args, d, next, effect)
			}
			if !value.Equal(d, after) {
				counts["smaller"]++
			}
		}
		if lattice.Distributive(c.l) && !join.Leq(c.l, least, delta) {
			t.Fatalf("%+v in %+v with %+v: %+v is not at most %+v", c.f.Body, c.s, c.args, least, delta)
		}
		if !value.Equal(least, delta) {
			counts["different"]++
		}
		if inflated {
			counts["inflated"]++
		}
		if !value.IsBottom(c.l, least) {
			counts["more"]++
		}
	})
	for _, what := range []string{"smaller", "different", "inflated", "more"} {
		if counts[what] < 500 {
			t.Errorf("%v", counts)
		}
	}
}

// TestLeastOfAll covers P23.3 and P23.5 in small distributive lattices: the least delta is at most each element that has the effect.
func TestLeastOfAll(t *testing.T) {
	source := rand.New(rand.NewSource(4))
	sent := 0
	for _, l := range sample.Finite() {
		if !lattice.Distributive(l) {
			continue
		}
		all := sample.Elements(l)
		for range 200 {
			c := call{l: l, m: sample.NewMaker(source.Intn, l), s: all[source.Intn(len(all))*source.Intn(2)]}
			c.args = sample.Arguments(source.Intn, c.m.Params)
			c.f = api.Function{Name: "u", On: "o", Params: c.m.Params, Body: mirror{source, c.m}.of(state(l), 3)}
			if source.Intn(2) == 0 {
				c.f.Body = c.m.Adding(sample.Of(l)).Expr
			}
			_, least, after := c.results(t)
			effect := joined(l, c.s, after)
			if !value.IsBottom(l, least) {
				sent++
			}
			for _, v := range all {
				if value.Equal(joined(l, c.s, v), effect) && !sample.Leq(l, least, v) {
					t.Fatalf("%+v in %+v: %+v is not at most %+v", c.f.Body, c.s, least, v)
				}
			}
		}
	}
	if sent < 200 {
		t.Errorf("only %d least deltas are not the bottom", sent)
	}
}

// TestWithoutState covers P23.5: if the body does not contain the state, the delta is the new state.
func TestWithoutState(t *testing.T) {
	seen := 0
	calls(t, 5, 400, func(_ *rand.Rand, c call) {
		if eval.Reads(c.f.Body) {
			return
		}
		delta, _, after := c.results(t)
		if !value.Equal(delta, after) {
			t.Fatalf("%+v: %+v, not %+v", c.f.Body, delta, after)
		}
		if !value.IsBottom(c.l, after) {
			seen++
		}
	})
	if seen < 300 {
		t.Errorf("only %d updates", seen)
	}
}

// TestExchange covers the purpose of deltas: two replicas that exchange the deltas of inflationary updates reach the same state, in whatever order.
func TestExchange(t *testing.T) {
	source := rand.New(rand.NewSource(6))
	for _, l := range sample.Objects() {
		for _, do := range []func(api.Lattice, api.Function, api.Value, []api.Datum) (api.Value, api.Errno){deltas.Delta, deltas.Least} {
			bottom, _ := value.Bottom(l)
			states, sent := []api.Value{bottom, bottom}, []api.Value{}
			for range 12 {
				i := source.Intn(2)
				m := sample.NewMaker(source.Intn, l)
				f := api.Function{Name: "u", On: "o", Params: m.Params, Body: m.Covering(0, 3).Expr}
				args := sample.Arguments(source.Intn, m.Params)
				after, _ := eval.Update(l, f, states[i], args)
				d, e := do(l, f, states[i], args)
				if states[i] = joined(l, states[i], d); e != api.OK || !value.Equal(states[i], after) {
					t.Fatalf("%+v: %d, %+v, not %+v", f.Body, e, states[i], after)
				}
				sent = append(sent, d)
			}
			for i := range states {
				for _, k := range source.Perm(len(sent)) {
					states[i] = joined(l, states[i], sent[k])
				}
			}
			if !value.Equal(states[0], states[1]) {
				t.Fatalf("%+v and %+v", states[0], states[1])
			}
		}
	}
}
