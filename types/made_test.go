package types_test

import (
	"math/rand"
	"testing"

	"plexus/api"
	"plexus/sample"
	"plexus/types"
)

// wanted returns the type of an expression and whether the elaboration is told so.
func wanted(m *sample.Maker) (api.Type, int) {
	if m.Intn(2) == 0 {
		return of(m.Lattice), sample.Sure
	}
	t := one(m, append(m.Readable(), number, truth, name, names)...)
	return t, one(m, sample.Sure, sample.Unknown)
}

// TestMade covers P18.1: the elaborations of random expressions.
func TestMade(t *testing.T) {
	source := rand.New(rand.NewSource(1))
	ops := map[int]int{}
	for range 60 {
		for _, l := range sample.Objects() {
			m := sample.NewMaker(source.Intn, l)
			want, how := wanted(m)
			x := m.Make(want, how, source.Intn(5))
			if how == sample.Unknown {
				want = none
			}
			before := text(x.Tree)
			e, fault := types.Expression(l, m.Params, want, x.Tree)
			if fault != (api.Fault{}) || text(e) != text(x.Expr) {
				t.Fatalf("%v: %v,\n%v; not\n%v", x.Tree, fault, e, x.Expr)
			}
			if text(x.Tree) != before {
				t.Fatalf("%v has become %v", before, x.Tree)
			}
			count(x.Expr, ops)
		}
	}
	for op := api.XInt; op <= api.XConflict; op++ {
		if ops[op] < 20 {
			t.Errorf("the operation %d occurs %d times", op, ops[op])
		}
	}
}

// count counts the operations of an expression.
func count(e api.Expr, ops map[int]int) {
	ops[e.Op]++
	for _, kid := range e.Kids {
		count(kid, ops)
	}
}

// replace returns a tree with another node in place of the one with an offset.
func replace(n api.Node, at int, by api.Node) api.Node {
	if n.At == at {
		return by
	}
	kids := n.Kids
	n.Kids = nil
	for _, kid := range kids {
		n.Kids = append(n.Kids, replace(kid, at, by))
	}
	return n
}

// find returns the node with an offset, or nil.
func find(n *api.Node, at int) *api.Node {
	if n.At == at {
		return n
	}
	for i := range n.Kids {
		if found := find(&n.Kids[i], at); found != nil {
			return found
		}
	}
	return nil
}

// TestOneFault covers P18.1: in an expression without faults one part is replaced by one that has a fault.
func TestOneFault(t *testing.T) {
	source := rand.New(rand.NewSource(2))
	for range 40 {
		for _, l := range sample.Objects() {
			m := sample.NewMaker(source.Intn, l)
			want, how := wanted(m)
			x := m.Make(want, how, source.Intn(5))
			if how == sample.Unknown {
				want = none
			}
			s := one(m, m.Steps...)
			by, code := wrong(m, s)
			by.At = s.At
			n := replace(x.Tree, s.At, by)
			if _, fault := types.Expression(l, m.Params, want, n); fault != (api.Fault{Code: code, At: s.At}) {
				t.Fatalf("%v at %d: %v, not %d", n, s.At, fault, code)
			}
		}
	}
}

// wrong returns an expression with a fault at its own offset, wherever the step s is done for it.
func wrong(m *sample.Maker, s sample.Step) (api.Node, api.Errno) {
	state := api.Node{Kind: api.NodeState, At: -5000}
	switch i := m.Intn(5); {
	case s.Strict && i == 0:
		return api.Node{Kind: map[bool]int{true: api.NodeTrue, false: api.NodeInt}[s.Type.Sort == api.SortInt]}, api.ErrType
	case s.Strict && i == 1 && s.Type.Sort != 0:
		return one(m, api.Node{Kind: api.NodeBottom}, state, api.Node{Kind: api.NodeJoin, Kids: []api.Node{state, state}}), api.ErrType
	case s.Strict && i == 2:
		return api.Node{Kind: api.NodeCall, Text: one(m, "pair", "one", "flag", "num", "write", "size", "keys", "on"), Kids: []api.Node{state, state, state, state}}, api.ErrArgument
	case i == 3 && m.Lattice.Kind == api.Product:
		return api.Node{Kind: api.NodeField, Text: "nothing", Kids: []api.Node{state}}, api.ErrName
	case i == 3:
		return api.Node{Kind: api.NodeField, Text: "nothing", Kids: []api.Node{state}}, api.ErrType
	}
	return api.Node{Kind: api.NodeName, Text: "nothing"}, api.ErrName
}

// TestFirstFault covers P18.1: of two faults the one that is found first counts.
func TestFirstFault(t *testing.T) {
	source := rand.New(rand.NewSource(3))
	seen := 0
	for range 100 {
		for _, l := range sample.Objects() {
			m := sample.NewMaker(source.Intn, l)
			want, how := wanted(m)
			x := m.Make(want, how, 1+source.Intn(4))
			if how == sample.Unknown {
				want = none
			}
			i := source.Intn(len(m.Steps))
			j := i + source.Intn(len(m.Steps)-i)
			// What is open would no longer be open, which changes the order of elaboration.
			if m.Steps[i].Open || m.Steps[j].Open {
				continue
			}
			// The second one may be a part of the first one, but then it is not left.
			n := replace(x.Tree, m.Steps[j].At, api.Node{Kind: api.NodeName, Text: "nothing", At: m.Steps[j].At})
			n = replace(n, m.Steps[i].At, api.Node{Kind: api.NodeName, Text: "nothing", At: m.Steps[i].At})
			if i != j && find(&n, m.Steps[j].At) != nil {
				seen++
			}
			if _, fault := types.Expression(l, m.Params, want, n); fault != (api.Fault{Code: api.ErrName, At: m.Steps[i].At}) {
				t.Fatalf("%v: %v, not at %d", n, fault, m.Steps[i].At)
			}
		}
	}
	if seen < 500 {
		t.Errorf("only %d expressions with two faults", seen)
	}
}

// TestJudged covers P18.1: types and first faults of expressions into which other expressions are put at random.
func TestJudged(t *testing.T) {
	source := rand.New(rand.NewSource(4))
	codes := map[api.Errno]int{}
	for range 300 {
		for _, l := range sample.Objects() {
			m := sample.NewMaker(source.Intn, l)
			want, how := wanted(m)
			x := m.Make(want, how, source.Intn(4))
			if how == sample.Unknown {
				want = none
			}
			n := x.Tree
			for range source.Intn(4) {
				n = replace(n, one(m, m.Steps...).At, anyExpression(m))
			}
			typ, first := judge{l, m.Params}.verdict(n, want)
			e, fault := types.Expression(l, m.Params, want, n)
			codes[fault.Code]++
			if fault != first || !types.Same(e.Type, typ) || fault.Code != api.OK && text(e) != text(api.Expr{}) {
				t.Fatalf("%v with %v expected: %v, %v; not %v, %v", n, want, fault, e.Type, first, typ)
			}
			if fault.Code != api.OK && find(&n, fault.At) == nil {
				t.Fatalf("%v: there is no node at %d", n, fault.At)
			}
		}
	}
	if codes[api.OK] < 1000 || codes[api.ErrType] < 1000 || codes[api.ErrName] < 200 || codes[api.ErrArgument] < 500 {
		t.Errorf("codes %v", codes)
	}
}

// anyExpression returns any expression: one of the maker's, or one that knows nothing of types.
func anyExpression(m *sample.Maker) api.Node {
	if m.Intn(2) == 0 {
		list := append(m.Readable(), number, truth, name, names)
		steps := m.Steps
		x := m.Make(one(m, list...), one(m, sample.Told, sample.Sure, sample.Unknown), m.Intn(3))
		m.Steps = steps
		return x.Tree
	}
	fields := append([]string{"a", "x", "z"}, m.Lattice.Names...)
	for _, p := range m.Params {
		fields = append(fields, p.Name)
	}
	trees := sample.Trees{Intn: m.Intn, Names: fields, Quotes: []string{"a", "x", "if"}}
	return trees.Expression(m.Intn(3))
}

// TestAnotherParam covers P18.6: a further parameter changes nothing.
func TestAnotherParam(t *testing.T) {
	source := rand.New(rand.NewSource(5))
	for range 30 {
		for _, l := range sample.Objects() {
			m := sample.NewMaker(source.Intn, l)
			want, how := wanted(m)
			n := m.Make(want, how, source.Intn(4)).Tree
			if source.Intn(2) == 0 {
				n = replace(n, one(m, m.Steps...).At, anyExpression(m))
			}
			e, fault := types.Expression(l, m.Params, want, n)
			again, g := types.Expression(l, append(m.Params, api.Param{Name: "other", Sort: 1 + source.Intn(4)}), want, n)
			if fault != g || text(e) != text(again) {
				t.Fatalf("%v: %v, %v", n, fault, g)
			}
		}
	}
}
