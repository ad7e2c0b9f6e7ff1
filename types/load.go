package types

import (
	"cmp"
	"slices"

	"plexus/api"
	"plexus/copies"
)

// loader checks the declarations of a program, one after the other.
type loader struct {
	faults
	declared map[string]bool
	lattices []api.Object // the lattices that are declared, with their names
	program  api.Program  // in the order of the declarations
}

// newLoader returns a loader that has checked no declarations.
func newLoader() *loader {
	return &loader{declared: map[string]bool{}}
}

// declaration checks a declaration with a number of others before it.
func (c *loader) declaration(d api.Node, before int) {
	if before >= MaxDeclarations {
		c.fail(api.ErrLimit, d.At)
	}
	if c.declared[d.Text] {
		c.fail(api.ErrName, d.At)
	}
	c.declared[d.Text] = true
	switch d.Kind {
	case api.NodeLattice:
		c.lattices = append(c.lattices, c.described(d))
	case api.NodeObject:
		c.program.Objects = append(c.program.Objects, c.described(d))
	case api.NodeUpdate:
		c.program.Updates = append(c.program.Updates, c.function(d))
	case api.NodeQuery:
		c.program.Queries = append(c.program.Queries, c.function(d))
	}
}

// result returns the checked program.
func (c *loader) result() api.Program {
	p := c.program
	for i := range p.Objects {
		p.Objects[i].Lattice = copies.Lattice(p.Objects[i].Lattice)
	}
	for _, list := range [][]api.Function{p.Updates, p.Queries} {
		for i := range list {
			separate(&list[i].Body)
		}
		slices.SortFunc(list, func(f, g api.Function) int { return cmp.Compare(f.Name, g.Name) })
	}
	slices.SortFunc(p.Objects, func(a, b api.Object) int { return cmp.Compare(a.Name, b.Name) })
	return p
}

// described checks the declaration of a lattice or an object.
func (c *loader) described(d api.Node) api.Object {
	l, fault := describe(c.lattices, d.Kids[0])
	c.add(fault)
	return api.Object{Name: d.Text, Lattice: l}
}

// function checks the declaration of an update or a query.
func (c *loader) function(d api.Node) api.Function {
	last := len(d.Kids) - 1
	object, body := d.Kids[last-1], d.Kids[last]
	f := api.Function{Name: d.Text, On: object.Text, Params: c.params(d.Kids[:last-1]), Result: int(d.N)}
	at := slices.IndexFunc(c.program.Objects, func(o api.Object) bool { return o.Name == object.Text })
	if at < 0 {
		c.fail(api.ErrName, object.At)
	}
	if c.failed() {
		return api.Function{}
	}
	l := c.program.Objects[at].Lattice
	e, fault := elaborate(l, f.Params, expected(l, f.Result), body)
	c.add(fault)
	f.Body = e
	return f
}

// params checks the parameters of a function.
func (c *loader) params(nodes []api.Node) []api.Param {
	var list []api.Param
	seen := map[string]bool{}
	for i, n := range nodes {
		if i >= MaxParams {
			c.fail(api.ErrLimit, n.At)
		}
		if seen[n.Text] {
			c.fail(api.ErrName, n.At)
		}
		seen[n.Text] = true
		list = append(list, api.Param{Name: n.Text, Sort: int(n.N)})
	}
	return list
}
