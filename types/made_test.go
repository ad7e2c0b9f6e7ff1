package types_test

import (
	"math/rand"
	"testing"

	"plexus/api"
	"plexus/sample"
	"plexus/types"
)

// descriptions returns descriptions of objects.
func descriptions() []api.Lattice {
	flag, set, flat, register := api.Lattice{Kind: api.Flag}, api.Lattice{Kind: api.Set}, api.Lattice{Kind: api.Flat}, api.Lattice{Kind: api.Register}
	closed := sample.Closed([]string{"a", "b", "c"}, api.Rule{If: []string{"a", "b"}, Then: "c"})
	large := api.Lattice{Kind: api.Product, Names: []string{"c", "a", "s", "if", "p"}, Parts: []api.Lattice{sample.Bounds(api.Max, 0, 9), sample.MapOf(set), register, sample.MapOf(sample.Bounds(api.Min, -3, 3), "x", "y"), sample.Lex(flag, sample.Product(flat, closed, sample.MapOf(sample.MapOf(flag))))}}
	small := sample.Product(sample.MapOf(sample.Lex(sample.Bounds(api.Min, 0, 9), flat)), register, sample.Bounds(api.Max, -1, 1), closed)
	list := []api.Lattice{large, large, large, small, sample.MapOf(small, "k"), sample.Lex(flag, small), sample.MapOf(sample.Lex(sample.Lex(flag, sample.Bounds(api.Max, 0, 5)), register)), sample.Product(small, small, set)}
	return append(append(list, sample.Finite()...), sample.Nested()...)
}

// wanted returns the type of an expression and whether the elaboration is told so.
func wanted(m *maker) (api.Type, int) {
	if m.source.Intn(2) == 0 {
		return of(m.l), sure
	}
	t := one(m, append(m.readable(), number, truth, name, names)...)
	return t, one(m, sure, unknown)
}

// TestMade covers P18.1: the elaborations of random expressions.
func TestMade(t *testing.T) {
	source := rand.New(rand.NewSource(1))
	ops := map[int]int{}
	for range 60 {
		for _, l := range descriptions() {
			m := newMaker(source, l)
			want, how := wanted(m)
			x := m.make(want, how, source.Intn(5))
			if how == unknown {
				want = none
			}
			before := text(x.n)
			e, fault := types.Expression(l, m.params, want, x.n)
			if fault != (api.Fault{}) || text(e) != text(x.e) {
				t.Fatalf("%v: %v,\n%v; not\n%v", x.n, fault, e, x.e)
			}
			if text(x.n) != before {
				t.Fatalf("%v has become %v", before, x.n)
			}
			count(x.e, ops)
		}
	}
	for op := api.XInt; op <= api.XConflict; op++ {
		if ops[op] < 20 {
			t.Errorf("the operation %d occurs %d times", op, ops[op])
		}
	}
}

// count counts the operations of an expression.
func count(e api.Expr, ops map[int]int) {
	ops[e.Op]++
	for _, kid := range e.Kids {
		count(kid, ops)
	}
}

// replace returns a tree with another node in place of the one with an offset.
func replace(n api.Node, at int, by api.Node) api.Node {
	if n.At == at {
		return by
	}
	kids := n.Kids
	n.Kids = nil
	for _, kid := range kids {
		n.Kids = append(n.Kids, replace(kid, at, by))
	}
	return n
}

// find returns the node with an offset, or nil.
func find(n *api.Node, at int) *api.Node {
	if n.At == at {
		return n
	}
	for i := range n.Kids {
		if found := find(&n.Kids[i], at); found != nil {
			return found
		}
	}
	return nil
}

// TestOneFault covers P18.1: in an expression without faults one part is replaced by one that has a fault.
func TestOneFault(t *testing.T) {
	source := rand.New(rand.NewSource(2))
	for range 40 {
		for _, l := range descriptions() {
			m := newMaker(source, l)
			want, how := wanted(m)
			x := m.make(want, how, source.Intn(5))
			if how == unknown {
				want = none
			}
			s := one(m, m.steps...)
			by, code := wrong(m, s)
			by.At = s.at
			n := replace(x.n, s.at, by)
			if _, fault := types.Expression(l, m.params, want, n); fault != (api.Fault{Code: code, At: s.at}) {
				t.Fatalf("%v at %d: %v, not %d", n, s.at, fault, code)
			}
		}
	}
}

// wrong returns an expression with a fault at its own offset, wherever the step s is done for it.
func wrong(m *maker, s step) (api.Node, api.Errno) {
	state := api.Node{Kind: api.NodeState, At: -5000}
	switch i := m.source.Intn(5); {
	case s.strict && i == 0:
		return api.Node{Kind: map[bool]int{true: api.NodeTrue, false: api.NodeInt}[s.t.Sort == api.SortInt]}, api.ErrType
	case s.strict && i == 1 && s.t.Sort != 0:
		return one(m, api.Node{Kind: api.NodeBottom}, state, api.Node{Kind: api.NodeJoin, Kids: []api.Node{state, state}}), api.ErrType
	case s.strict && i == 2:
		return api.Node{Kind: api.NodeCall, Text: one(m, "pair", "one", "flag", "num", "write", "size", "keys", "on"), Kids: []api.Node{state, state, state, state}}, api.ErrArgument
	case i == 3 && m.l.Kind == api.Product:
		return api.Node{Kind: api.NodeField, Text: "nothing", Kids: []api.Node{state}}, api.ErrName
	case i == 3:
		return api.Node{Kind: api.NodeField, Text: "nothing", Kids: []api.Node{state}}, api.ErrType
	}
	return api.Node{Kind: api.NodeName, Text: "nothing"}, api.ErrName
}

// TestFirstFault covers P18.1: of two faults the one that is found first counts.
func TestFirstFault(t *testing.T) {
	source := rand.New(rand.NewSource(3))
	seen := 0
	for range 100 {
		for _, l := range descriptions() {
			m := newMaker(source, l)
			want, how := wanted(m)
			x := m.make(want, how, 1+source.Intn(4))
			if how == unknown {
				want = none
			}
			i := source.Intn(len(m.steps))
			j := i + source.Intn(len(m.steps)-i)
			// What is open would no longer be open, which changes the order of elaboration.
			if m.steps[i].open || m.steps[j].open {
				continue
			}
			// The second one may be a part of the first one, but then it is not left.
			n := replace(x.n, m.steps[j].at, api.Node{Kind: api.NodeName, Text: "nothing", At: m.steps[j].at})
			n = replace(n, m.steps[i].at, api.Node{Kind: api.NodeName, Text: "nothing", At: m.steps[i].at})
			if i != j && find(&n, m.steps[j].at) != nil {
				seen++
			}
			if _, fault := types.Expression(l, m.params, want, n); fault != (api.Fault{Code: api.ErrName, At: m.steps[i].at}) {
				t.Fatalf("%v: %v, not at %d", n, fault, m.steps[i].at)
			}
		}
	}
	if seen < 500 {
		t.Errorf("only %d expressions with two faults", seen)
	}
}

// TestJudged covers P18.1: types and first faults of expressions into which other expressions are put at random.
func TestJudged(t *testing.T) {
	source := rand.New(rand.NewSource(4))
	codes := map[api.Errno]int{}
	for range 300 {
		for _, l := range descriptions() {
			m := newMaker(source, l)
			want, how := wanted(m)
			x := m.make(want, how, source.Intn(4))
			if how == unknown {
				want = none
			}
			n := x.n
			for range source.Intn(4) {
				n = replace(n, one(m, m.steps...).at, m.any())
			}
			typ, first := judge{l, m.params}.verdict(n, want)
			e, fault := types.Expression(l, m.params, want, n)
			codes[fault.Code]++
			if fault != first || !types.Same(e.Type, typ) || fault.Code != api.OK && text(e) != text(api.Expr{}) {
				t.Fatalf("%v with %v expected: %v, %v; not %v, %v", n, want, fault, e.Type, first, typ)
			}
			if fault.Code != api.OK && find(&n, fault.At) == nil {
				t.Fatalf("%v: there is no node at %d", n, fault.At)
			}
		}
	}
	if codes[api.OK] < 1000 || codes[api.ErrType] < 1000 || codes[api.ErrName] < 200 || codes[api.ErrArgument] < 500 {
		t.Errorf("codes %v", codes)
	}
}

// any returns any expression: one of the maker's, or one that knows nothing of types.
func (m *maker) any() api.Node {
	if m.source.Intn(2) == 0 {
		list := append(m.readable(), number, truth, name, names)
		steps := m.steps
		x := m.make(one(m, list...), one(m, told, sure, unknown), m.source.Intn(3))
		m.steps = steps
		return x.n
	}
	fields := append([]string{"a", "x", "z"}, m.l.Names...)
	for _, p := range m.params {
		fields = append(fields, p.Name)
	}
	trees := sample.Trees{Intn: m.source.Intn, Names: fields, Quotes: []string{"a", "x", "if"}}
	return trees.Expression(m.source.Intn(3))
}

// TestAnotherParam covers P18.6: a further parameter changes nothing.
func TestAnotherParam(t *testing.T) {
	source := rand.New(rand.NewSource(5))
	for range 30 {
		for _, l := range descriptions() {
			m := newMaker(source, l)
			want, how := wanted(m)
			n := m.make(want, how, source.Intn(4)).n
			if source.Intn(2) == 0 {
				n = replace(n, one(m, m.steps...).at, m.any())
			}
			e, fault := types.Expression(l, m.params, want, n)
			again, g := types.Expression(l, append(m.params, api.Param{Name: "other", Sort: 1 + source.Intn(4)}), want, n)
			if fault != g || text(e) != text(again) {
				t.Fatalf("%v: %v, %v", n, fault, g)
			}
		}
	}
}
