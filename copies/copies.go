// Package copies makes copies that share no memory with what they are copies of, for the layers that return what they keep or what they were given.
package copies

import (
	"slices"

	"plexus/api"
)

// Lattice returns a copy of a description.
func Lattice(l api.Lattice) api.Lattice {
	l.Names, l.Parts, l.Rules = slices.Clone(l.Names), each(l.Parts, Lattice), each(l.Rules, rule)
	return l
}

// Value returns a copy of a value.
func Value(v api.Value) api.Value {
	v.Names, v.Parts, v.Entries = slices.Clone(v.Names), each(v.Parts, Value), each(v.Entries, Entry)
	return v
}

// Entry returns a copy of an entry of a register.
func Entry(e api.Entry) api.Entry {
	e.Clock = slices.Clone(e.Clock)
	return e
}

// Expr returns a copy of an expression.
func Expr(x api.Expr) api.Expr {
	x.Type.Lattice, x.Kids = Lattice(x.Type.Lattice), each(x.Kids, Expr)
	return x
}

// Function returns a copy of an update or a query.
func Function(f api.Function) api.Function {
	f.Params, f.Body = slices.Clone(f.Params), Expr(f.Body)
	return f
}

// Program returns a copy of a program.
func Program(p api.Program) api.Program {
	return api.Program{Objects: each(p.Objects, object), Updates: each(p.Updates, Function), Queries: each(p.Queries, Function)}
}

// object returns a copy of an object.
func object(o api.Object) api.Object {
	o.Lattice = Lattice(o.Lattice)
	return o
}

// rule returns a copy of a rule.
func rule(r api.Rule) api.Rule {
	r.If = slices.Clone(r.If)
	return r
}

// each returns the copies of all elements of a list. An empty list has no copy, so that one with room behind its end shares none.
func each[T any](list []T, copyOf func(x T) T) []T {
	if len(list) == 0 {
		return nil
	}
	copies := make([]T, len(list))
	for i, x := range list {
		copies[i] = copyOf(x)
	}
	return copies
}
