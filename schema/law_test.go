package schema_test

import (
	"slices"
	"strconv"
	"testing"

	"plexus/api"
	"plexus/eval"
	"plexus/join"
	"plexus/sample"
	"plexus/schema"
	"plexus/value"
)

// atMost reports whether a is at most b in the order of data of a sort.
func atMost(a, b api.Datum) bool {
	switch a.Sort {
	case api.SortName:
		return a.Name == b.Name
	case api.SortNames:
		return !slices.ContainsFunc(a.Names, func(s string) bool { return !slices.Contains(b.Names, s) })
	}
	return a.N <= b.N
}

// accepted returns the accepted functions among those of an object.
func accepted(s *schema.Schema, list []api.Function, object string) []api.Function {
	return slices.DeleteFunc(slices.Clone(list), func(f api.Function) bool {
		ok, _ := s.Accepted(f.Name)
		return !ok || f.On != object
	})
}

// step carries out an accepted update and joins its result, which is returned, too.
func step(t *testing.T, s *schema.Schema, l api.Lattice, f api.Function, state api.Value, args []api.Datum) (next, result api.Value) {
	t.Helper()
	result, e := s.Update(f.Name, args, state)
	if e != api.OK {
		t.Fatalf("%+v in %+v: %d", f, state, e)
	}
	next, e = join.Join(l, state, result)
	if e != api.OK {
		t.Fatalf("%+v in %+v: %+v", f, state, result)
	}
	return next, result
}

// TestNewState covers P24.3: the join of the state and the result is the new state, and the state is at most this.
func TestNewState(t *testing.T) {
	changed := 0
	programs(t, 3, 200, func(r random) {
		for _, o := range r.p.Objects {
			for _, f := range accepted(r.s, r.p.Updates, o.Name) {
				state, args := sample.Element(r.Intn, o.Lattice), sample.Arguments(r.Intn, f.Params)
				next, result := step(t, r.s, o.Lattice, f, state, args)
				want, _ := eval.Update(o.Lattice, f, state, args)
				if !value.Equal(next, want) || !join.Leq(o.Lattice, state, next) || value.IsBottom(o.Lattice, result) != value.Equal(state, next) {
					t.Fatalf("%+v in %+v with %+v: %+v, not %+v", f, state, args, next, want)
				}
				if !value.Equal(state, next) {
					changed++
				}
			}
		}
	})
	if changed < 150 {
		t.Errorf("only %d states are changed", changed)
	}
}

// TestMonotone covers P24.5: after accepted updates, the results of accepted queries are at least those before.
func TestMonotone(t *testing.T) {
	greater, lost := 0, 0
	programs(t, 4, 600, func(r random) {
		for _, o := range r.p.Objects {
			state, _ := value.Bottom(o.Lattice)
			for _, f := range accepted(r.s, r.p.Updates, o.Name) {
				next, _ := step(t, r.s, o.Lattice, f, state, sample.Arguments(r.Intn, f.Params))
				for _, q := range r.p.Queries {
					if q.On != o.Name {
						continue
					}
					args := sample.Arguments(r.Intn, q.Params)
					before, e := r.s.Query(q.Name, args, state)
					after, e2 := r.s.Query(q.Name, args, next)
					if e != api.OK || e2 != api.OK {
						t.Fatalf("%+v: %d, %d", q, e, e2)
					}
					is, _ := r.s.Accepted(q.Name)
					if is && !atMost(before, after) {
						t.Fatalf("%+v has the results %+v and %+v", q, before, after)
					}
					if is && !atMost(after, before) {
						greater++
					}
					if !atMost(before, after) {
						lost++
					}
				}
				state = next
			}
		}
	})
	if greater < 40 || lost < 5 {
		t.Errorf("%d results are greater, %d are not", greater, lost)
	}
}

// TestCart covers P24.5 with updates and queries of an ordinary program.
func TestCart(t *testing.T) {
	s := loaded(t, "object cart: { items: map max(0, 99), seen: set, done: flag }; update put(k: name, n: int) on cart = s join rec(items: map(k: num(n)), seen: set(k)); update more(k: name) on cart = s join rec(items: map(k: num(number(s.items[k]) + 1))); update finish() on cart = rec(items: s.items, seen: s.seen, done: flag(true)); query total() on cart: int = sum(s.items); query has(k: name) on cart: bool = k in keys(s.seen); query all() on cart: names = keys(s.items); query is-done() on cart: bool = on(s.done); query left() on cart: int = 100 - sum(s.items);")
	l, _ := s.Lattice("cart")
	state, _ := value.Bottom(l)
	for _, c := range []struct {
		update      string
		args        []api.Datum
		delta, next string
	}{
		{"put", []api.Datum{name("a"), number(3)}, "(items: {a: 3}, seen: {a}, done: false)", "(items: {a: 3}, seen: {a}, done: false)"}, {"more", []api.Datum{name("a")}, "(items: {a: 4}, seen: {}, done: false)", "(items: {a: 4}, seen: {a}, done: false)"}, {"put", []api.Datum{name("a"), number(2)}, "(items: {}, seen: {}, done: false)", "(items: {a: 4}, seen: {a}, done: false)"},
		{"put", []api.Datum{name("b"), number(0)}, "(items: {}, seen: {b}, done: false)", "(items: {a: 4}, seen: {a,b}, done: false)"}, {"finish", nil, "(items: {}, seen: {}, done: true)", "(items: {a: 4}, seen: {a,b}, done: true)"}, {"put", []api.Datum{name("b"), number(200)}, "(items: {b: 99}, seen: {}, done: false)", "(items: {a: 4, b: 99}, seen: {a,b}, done: true)"}, {"more", []api.Datum{name("b")}, "(items: {}, seen: {}, done: false)", "(items: {a: 4, b: 99}, seen: {a,b}, done: true)"},
	} {
		f, _ := s.Function(c.update)
		next, delta := step(t, s, l, f, state, c.args)
		shown, _ := value.Text(l, delta)
		after, _ := value.Text(l, next)
		if shown != c.delta || after != c.next {
			t.Errorf("%s %v: %s, not %s; %s, not %s", c.update, c.args, shown, c.delta, after, c.next)
		}
		for _, query := range []string{"total", "has", "all", "is-done", "left"} {
			args := []api.Datum{name("b")}
			if query != "has" {
				args = nil
			}
			x, _ := s.Query(query, args, state)
			y, e := s.Query(query, args, next)
			if is, _ := s.Accepted(query); e != api.OK || is != (query != "left") || is && !atMost(x, y) {
				t.Errorf("%s behind %s: %+v, %+v, accepted: %v", query, c.update, x, y, is)
			}
		}
		state = next
	}
}

// TestConvergence covers P24.6: two replicas join their own results and then those of the other one, in any order and any number of times.
func TestConvergence(t *testing.T) {
	grown := 0
	programs(t, 5, 300, func(r random) {
		other := loaded(t, r.s.Source())
		for _, o := range r.p.Objects {
			list := accepted(r.s, r.p.Updates, o.Name)
			bottom, _ := value.Bottom(o.Lattice)
			states, sent := []api.Value{bottom, bottom}, make([][]api.Value, 2)
			for range 10 * min(1, len(list)) {
				i, f := r.Intn(2), list[r.Intn(len(list))]
				next, result := step(t, []*schema.Schema{r.s, other}[i], o.Lattice, f, states[i], sample.Arguments(r.Intn, f.Params))
				states[i], sent[i] = next, append(sent[i], result)
			}
			if !value.Equal(states[0], states[1]) {
				grown++
			}
			for i := range states {
				received := sent[1-i]
				order := slices.Concat(r.Perm(len(received)), r.Perm(len(received)))[r.Intn(len(received)+1):]
				for _, k := range order {
					states[i], _ = join.Join(o.Lattice, states[i], received[k])
				}
			}
			if !value.Equal(states[0], states[1]) {
				t.Fatalf("%s: %+v and %+v", r.s.Source(), states[0], states[1])
			}
		}
	})
	if grown < 100 {
		t.Errorf("only %d pairs of states were different", grown)
	}
}

// TestMany covers P24.1 and P1 for a program with as many declarations as there can be.
func TestMany(t *testing.T) {
	source := "object o: set;"
	for i := range 63 {
		source += " update u" + strconv.Itoa(i) + "(x: name) on o = s join set(x, 'u" + strconv.Itoa(i) + "');"
	}
	s := loaded(t, source)
	for i := range 63 {
		v, e := s.Update("u"+strconv.Itoa(i), []api.Datum{name("a")}, sample.Named("a"))
		if e != api.OK || len(v.Names) != 1 || v.Names[0] != "u"+strconv.Itoa(i) {
			t.Errorf("%d: %d, %+v", i, e, v)
		}
	}
	if len(s.Program().Updates) != 63 {
		t.Errorf("%d updates", len(s.Program().Updates))
	}
}
