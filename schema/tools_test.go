package schema_test

import (
	"fmt"
	"math/rand"
	"slices"
	"strconv"
	"testing"

	"plexus/api"
	"plexus/copies"
	"plexus/printer"
	"plexus/sample"
	"plexus/schema"
	"plexus/types"
)

// text returns all fields of a value as a text. Nil and empty slices have the same text.
func text(x any) string { return fmt.Sprintf("%+v", x) }

// loaded returns the schema of a source without faults.
func loaded(t *testing.T, source string) *schema.Schema {
	t.Helper()
	s, fault := schema.Load(source)
	if fault != (api.Fault{}) || s == nil {
		t.Fatalf("%s: %v", source, fault)
	}
	return s
}

// name returns a datum of the sort name.
func name(s string) api.Datum { return api.Datum{Sort: api.SortName, Name: s} }

// number returns a datum of the sort int.
func number(n int64) api.Datum { return api.Datum{Sort: api.SortInt, N: n} }

// functions returns the updates and the queries of a program.
func functions(p api.Program) []api.Function { return slices.Concat(p.Updates, p.Queries) }

// latticeOf returns the lattice of an object of a program.
func latticeOf(p api.Program, object string) api.Lattice {
	i := slices.IndexFunc(p.Objects, func(o api.Object) bool { return o.Name == object })
	return p.Objects[i].Lattice
}

// without returns a program without the offsets in its expressions.
func without(p api.Program) api.Program {
	p = copies.Program(p)
	for _, list := range [][]api.Function{p.Updates, p.Queries} {
		for i := range list {
			remove(&list[i].Body)
		}
	}
	return p
}

// remove removes the offsets of an expression.
func remove(x *api.Expr) {
	x.At = 0
	for i := range x.Kids {
		remove(&x.Kids[i])
	}
}

// printable returns a description whose fields are no keywords.
func printable(l api.Lattice) api.Lattice {
	l = copies.Lattice(l)
	for i, name := range l.Names {
		if l.Kind == api.Product && (name == "s" || name == "if") {
			l.Names[i] = name + "0"
		}
	}
	for i, part := range l.Parts {
		l.Parts[i] = printable(part)
	}
	return l
}

// random is a random program that was loaded.
type random struct {
	*rand.Rand
	p api.Program // as it was made, with other offsets
	s *schema.Schema
}

// programs checks random programs, each with some objects, and updates and queries of each object.
func programs(t *testing.T, seed int64, count int, do func(r random)) {
	t.Helper()
	source := rand.New(rand.NewSource(seed))
	for i := range count {
		p := program(source, i)
		tree, e := types.Tree(p)
		if e != api.OK {
			t.Fatalf("%+v is no program", p)
		}
		printed, e := printer.Print(tree)
		if e != api.OK {
			t.Fatalf("%+v: %d", p, e)
		}
		do(random{source, p, loaded(t, printed)})
	}
}

// program makes a random program.
func program(source *rand.Rand, number int) api.Program {
	objects := sample.Objects()
	var p api.Program
	for i := range 1 + source.Intn(3) {
		l := printable(objects[(number+i)%len(objects)])
		o := api.Object{Name: "o" + strconv.Itoa(i), Lattice: l}
		p.Objects = append(p.Objects, o)
		for k := range 3 + source.Intn(4) {
			f := function(source, o, source.Intn(2)*(1+source.Intn(4)))
			f.Name = "f" + strconv.Itoa(i) + "-" + strconv.Itoa(k)
			if f.Result == 0 {
				p.Updates = append(p.Updates, f)
			} else {
				p.Queries = append(p.Queries, f)
			}
		}
	}
	return p
}

// function makes a random update (result 0) or query of an object. Many of the updates are accepted.
func function(source *rand.Rand, o api.Object, result int) api.Function {
	m := sample.NewMaker(source.Intn, o.Lattice)
	for i := range m.Params {
		m.Params[i].Name = "p" + strconv.Itoa(i)
	}
	f := api.Function{On: o.Name, Params: m.Params, Result: result}
	switch {
	case result > 0:
		f.Body = m.Make(sample.Sort(result), sample.Sure, source.Intn(4)).Expr
	case source.Intn(4) == 0:
		f.Body = m.Make(sample.Of(o.Lattice), sample.Sure, source.Intn(4)).Expr
	case source.Intn(2) == 0:
		f.Body = m.Covering(30, 1+source.Intn(3)).Expr
	default:
		t := sample.Of(o.Lattice)
		f.Body = api.Expr{Op: api.XJoin, Type: t, Kids: []api.Expr{m.Covering(0, 2).Expr, m.Adding(t).Expr}}
	}
	return f
}
