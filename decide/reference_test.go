package decide_test

import (
	"math/rand"
	"slices"
	"testing"

	"plexus/api"
	"plexus/decide"
	"plexus/eval"
	"plexus/sample"
	"plexus/value"
)

// model is a finite lattice by the definitions: its elements in the order of values, and tables of their order and their joins.
type model struct {
	*sample.Table
	joins [][]int
}

// newModel returns the model of a description.
func newModel(l api.Lattice) model {
	m := model{Table: sample.TableOf(l, slices.SortedFunc(slices.Values(sample.Elements(l)), value.Compare))}
	for i := range m.All {
		m.joins = append(m.joins, nil)
		for k := range m.All {
			m.joins[i] = append(m.joins[i], m.Upper(i, k))
		}
	}
	return m
}

// index returns the index of an element.
func (m model) index(v api.Value) int {
	return slices.IndexFunc(m.All, func(other api.Value) bool { return sample.Same(v, other) })
}

// outcome is what a call returns in a state: the index of a new state, or a datum.
type outcome struct {
	next int
	d    api.Datum
}

// outcomes returns what a call returns in all states.
func (m model) outcomes(t *testing.T, c call) []outcome {
	t.Helper()
	var list []outcome
	for _, s := range m.All {
		var o outcome
		var e api.Errno
		if c.f.Result == 0 {
			var v api.Value
			v, e = eval.Update(c.l, c.f, s, c.args)
			o.next = m.index(v)
		} else {
			o.d, e = eval.Query(c.l, c.f, s, c.args)
		}
		if e != api.OK || o.next < 0 {
			t.Fatalf("%+v in %+v: %d", c, s, e)
		}
		list = append(list, o)
	}
	return list
}

// inOrder reports whether two outcomes of one call are in order.
func (m model) inOrder(c call, a, b outcome) bool {
	switch c.f.Result {
	case 0:
		return m.Leq(a.next, b.next)
	case api.SortInt, api.SortBool:
		return a.d.N <= b.d.N
	case api.SortName:
		return a.d.Name == b.d.Name
	}
	for _, s := range a.d.Names {
		if !slices.Contains(b.d.Names, s) {
			return false
		}
	}
	return true
}

// counterexamples returns all counterexamples to a property of a call, in any order.
func (m model) counterexamples(property string, c call, list []outcome) [][2]int {
	var all [][2]int
	after := func(i int) int { return list[i].next }
	for j := range m.All {
		for i := range m.All {
			broken := false
			switch property {
			case inflationary:
				broken = j == 0 && !m.Leq(i, after(i))
			case monotone:
				broken = m.Leq(i, j) && !m.inOrder(c, list[i], list[j])
			case additive:
				broken = after(m.joins[i][j]) != m.joins[after(i)][after(j)]
			case idempotent:
				broken = j == 0 && after(after(i)) != after(i)
			}
			if broken {
				all = append(all, [2]int{i, j})
			}
		}
	}
	return all
}

// least returns the answer that some counterexamples give.
func least(all [][2]int) decide.Answer {
	if len(all) == 0 {
		return decide.Answer{Holds: true}
	}
	first := slices.MinFunc(all, func(a, b [2]int) int { return slices.Compare(a[:], b[:]) })
	return decide.Answer{I: first[0], J: first[1]}
}

// TestReference covers P22.2 and P22.3 for random calls on small lattices.
func TestReference(t *testing.T) {
	source := rand.New(rand.NewSource(1))
	counts := map[string]map[bool]int{inflationary: {}, monotone: {}, additive: {}, idempotent: {}, "query": {}, "J": {}}
	for _, l := range finites() {
		m := newModel(l)
		for range 70 {
			c := anyCall(source, l, 0)
			before := text(c)
			list := m.outcomes(t, c)
			image, e := decide.Image(l, c.f, c.args)
			if e != api.OK || !slices.EqualFunc(image, list, func(i int, o outcome) bool { return i == o.next }) {
				t.Fatalf("%+v: %v, %d, not %v", c, image, e, list)
			}
			for property := range questions() {
				a, want := c.ask(t, property), least(m.counterexamples(property, c, list))
				if a != want {
					t.Fatalf("%s, %+v: %v, not %v", property, c, a, want)
				}
				counts[property][a.Holds]++
				counts["J"][a.J > a.I+1 || a.J < a.I]++
			}
			if text(c) != before {
				t.Fatalf("%s has changed", before)
			}
		}
		for range 70 {
			c := anyCall(source, l, 1+source.Intn(4))
			list := m.outcomes(t, c)
			results, e := decide.Results(l, c.f, c.args)
			if e != api.OK || !slices.EqualFunc(results, list, func(d api.Datum, o outcome) bool { return text(d) == text(o.d) }) {
				t.Fatalf("%+v: %v, %d, not %v", c, results, e, list)
			}
			a, want := c.ask(t, monotone), least(m.counterexamples(monotone, c, list))
			if a != want {
				t.Fatalf("%+v: %v, not %v", c, a, want)
			}
			counts["query"][a.Holds]++
		}
	}
	for property, n := range counts {
		if n[true] < 100 || n[false] < 100 {
			t.Errorf("%s: %v", property, n)
		}
	}
}

// TestReferenceCommute covers P22.3 for pairs of random updates.
func TestReferenceCommute(t *testing.T) {
	source := rand.New(rand.NewSource(2))
	counts := map[bool]int{}
	for _, l := range finites() {
		m := newModel(l)
		for range 100 {
			c, d := anyCall(source, l, 0), anyCall(source, l, 0)
			f, g := m.outcomes(t, c), m.outcomes(t, d)
			var all [][2]int
			for i := range m.All {
				if f[g[i].next].next != g[f[i].next].next {
					all = append(all, [2]int{i, 0})
				}
			}
			a, want := commute(t, c, d), least(all)
			if a != want || commute(t, d, c) != want {
				t.Fatalf("%+v, %+v: %v, not %v", c, d, a, want)
			}
			counts[a.Holds]++
		}
	}
	if counts[true] < 300 || counts[false] < 300 {
		t.Errorf("%v", counts)
	}
}
