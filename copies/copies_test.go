package copies_test

import (
	"math/rand"
	"reflect"
	"testing"

	"plexus/api"
	"plexus/copies"
	"plexus/sample"
)

// check checks that a copy is equal and shares no memory with what it is a copy of.
func check(t *testing.T, x, c any) {
	t.Helper()
	if !reflect.DeepEqual(x, c) {
		t.Fatalf("%+v is no copy of %+v", c, x)
	}
	if !sample.Separate(x, c) {
		t.Fatalf("%+v and its copy share memory", x)
	}
}

// TestCopies checks the copies of elements, expressions, functions and programs of many objects.
func TestCopies(t *testing.T) {
	source := rand.New(rand.NewSource(1))
	for _, l := range sample.Objects() {
		for range 20 {
			// What the samples have in common is separate in the copies.
			v := copies.Value(sample.Element(source.Intn, l))
			check(t, v, copies.Value(v))
			m := sample.NewMaker(source.Intn, copies.Lattice(l))
			check(t, m.Lattice, copies.Lattice(m.Lattice))
			x := copies.Expr(m.Make(sample.Of(l), sample.Sure, source.Intn(4)).Expr)
			check(t, x, copies.Expr(x))
			f := copies.Function(api.Function{Name: "f", On: "o", Params: m.Params, Result: source.Intn(5), Body: x})
			check(t, f, copies.Function(f))
			p := copies.Program(api.Program{Objects: []api.Object{{Name: "o", Lattice: l}, {Name: "p", Lattice: l}}, Updates: []api.Function{f, f}, Queries: []api.Function{f}})
			check(t, p, copies.Program(p))
		}
	}
	for range 100 {
		m := sample.AnyMessage(source.Intn)
		check(t, m, copies.Message(m))
	}
	e := sample.Entry("x", 1, 2, 3, 4)
	check(t, sample.Written(e), sample.Written(copies.Entry(e)))
}

// TestEmpty checks that empty lists with room behind their ends share nothing.
func TestEmpty(t *testing.T) {
	v := api.Value{Names: make([]string, 0, 4), Parts: make([]api.Value, 0, 4), Entries: make([]api.Entry, 0, 4)}
	x := api.Expr{Type: sample.Of(api.Lattice{Names: v.Names, Parts: make([]api.Lattice, 0, 4), Rules: make([]api.Rule, 0, 4)}), Kids: make([]api.Expr, 0, 4)}
	f := api.Function{Params: make([]api.Param, 0, 4), Body: x}
	p := api.Program{Objects: make([]api.Object, 0, 4), Updates: make([]api.Function, 0, 4), Queries: make([]api.Function, 0, 4)}
	m := api.Message{Reads: make([]api.ReadID, 0, 4), Base: make([]api.Base, 0, 4), State: make([]api.Command, 0, 4), Acks: make([]api.Ack, 0, 4), Proof: make([]api.Proof, 0, 4), Digests: make([]api.Digest, 0, 4), Objects: make([]string, 0, 4), Items: make([]api.Item, 0, 4)}
	if !sample.Separate(m, copies.Message(m)) || !sample.Separate(v, copies.Value(v), copies.Expr(x)) || !sample.Separate(f, copies.Function(f)) || !sample.Separate(p, copies.Program(p)) {
		t.Error("memory is shared")
	}
}
