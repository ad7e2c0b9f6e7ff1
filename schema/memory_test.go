package schema_test

import (
	"math/rand"
	"testing"

	"plexus/api"
	"plexus/sample"
	"plexus/schema"
)

// everything is all that a schema returns about its program.
type everything struct {
	program   api.Program
	functions []api.Function
	lattices  []api.Lattice
}

// all returns all that a schema returns about its program.
func all(s *schema.Schema) everything {
	x := everything{program: s.Program()}
	for _, f := range functions(x.program) {
		g, _ := s.Function(f.Name)
		x.functions = append(x.functions, g)
	}
	for _, o := range x.program.Objects {
		l, _ := s.Lattice(o.Name)
		x.lattices = append(x.lattices, l)
	}
	return x
}

// values returns what a schema returned, one after the other.
func (x everything) values() []any {
	list := []any{x.program}
	for _, f := range x.functions {
		list = append(list, f)
	}
	for _, l := range x.lattices {
		list = append(list, l)
	}
	return list
}

// TestMemory covers that results share no memory with arguments, with the schema or with each other: neither has one an address of another one, nor does it change a later one if it is written over.
func TestMemory(t *testing.T) {
	programs(t, 6, 60, func(r random) {
		first, second := all(r.s), all(r.s)
		list := append(first.values(), second.values()...)
		before := text(second)
		for _, f := range functions(r.p) {
			l := latticeOf(r.p, f.On)
			state, args := sample.Clone(sample.Element(r.Intn, l)), sample.Arguments(r.Intn, f.Params)
			v, _ := r.s.Update(f.Name, args, state)
			w, _ := r.s.Update(f.Name, args, state)
			d, _ := r.s.Query(f.Name, args, state)
			g, _ := r.s.Query(f.Name, args, state)
			list = append(list, state, args, v, w, d, g)
		}
		if !sample.Separate(list...) {
			t.Fatalf("memory is shared, by the results of %s", r.s.Source())
		}
		overwrite(first)
		if text(all(r.s)) != before {
			t.Fatalf("%s has changed", r.s.Source())
		}
	})
}

// overwrite writes over all that a schema returned.
func overwrite(x everything) {
	var spoil func(l *api.Lattice)
	spoil = func(l *api.Lattice) {
		for i := range l.Names {
			l.Names[i] = "zz"
		}
		for i := range l.Parts {
			spoil(&l.Parts[i])
		}
		*l = api.Lattice{Kind: 99, Lo: 1}
	}
	var change func(x *api.Expr)
	change = func(x *api.Expr) {
		for i := range x.Kids {
			change(&x.Kids[i])
		}
		spoil(&x.Type.Lattice)
		*x = api.Expr{Op: 99}
	}
	for _, list := range [][]api.Function{x.functions, x.program.Updates, x.program.Queries} {
		for i := range list {
			change(&list[i].Body)
			for k := range list[i].Params {
				list[i].Params[k].Name = "zz"
			}
			list[i].Name = "zz"
		}
	}
	for i := range x.lattices {
		spoil(&x.lattices[i])
	}
	for i := range x.program.Objects {
		spoil(&x.program.Objects[i].Lattice)
		x.program.Objects[i].Name = "zz"
	}
}

// TestAnyArguments covers P1: all functions terminate without a panic for arguments of all kinds, and change neither them nor the schema.
func TestAnyArguments(t *testing.T) {
	programs(t, 7, 40, func(r random) {
		before := text(all(r.s)) + r.s.Source()
		for _, f := range append(functions(r.p), api.Function{Name: "none"}, api.Function{Name: "o0"}) {
			for range 20 {
				state, args := sample.AnyValue(r.Intn, 3), sample.Arguments(r.Intn, f.Params)
				if r.Intn(2) == 0 && f.On != "" {
					state = sample.Element(r.Intn, latticeOf(r.p, f.On))
				}
				for i := range args {
					if r.Intn(4) == 0 {
						args[i] = sample.AnyDatum(r.Intn)
					}
				}
				given := text(state) + text(args)
				v, e := r.s.Update(f.Name, args, state)
				d, e2 := r.s.Query(f.Name, args, state)
				if e != api.OK && text(v) != text(api.Value{}) || e2 != api.OK && text(d) != text(api.Datum{}) || e == api.OK && e2 == api.OK || text(state)+text(args) != given {
					t.Fatalf("%s: %d, %+v, %d, %+v", f.Name, e, v, e2, d)
				}
			}
		}
		if text(all(r.s))+r.s.Source() != before {
			t.Fatalf("%s has changed", before)
		}
	})
}

// TestAnySource covers P1: Load terminates without a panic for all strings.
func TestAnySource(t *testing.T) {
	source := rand.New(rand.NewSource(8))
	good := 0
	pieces := []string{"object", "update", "query", "lattice", " o", " u", "(", ")", ":", ";", "=", " on ", " s ", "set", "map", "{", "}", "join", "'a'", "1", "int", " x", ",", "#", "\n", "\x00", "é", "object o: set;", "update u() on o = s;", "query q(x: name) on o: bool = x in keys(s);", "lattice l = flag;"}
	for range 20000 {
		text := ""
		for range source.Intn(8) {
			text += pieces[source.Intn(len(pieces))]
		}
		for range source.Intn(3) {
			text = text + pieces[len(pieces)-4+source.Intn(4)]
		}
		s, fault := schema.Load(text)
		if (s == nil) != (fault.Code != api.OK) || fault.At < 0 || fault.At > len(text) || s != nil && fault.At != 0 {
			t.Fatalf("%q: %v", text, fault)
		}
		if s != nil {
			good++
			s.Program()
		}
	}
	if good < 500 {
		t.Errorf("only %d sources without faults", good)
	}
}
