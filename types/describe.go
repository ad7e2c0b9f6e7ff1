package types

import (
	"slices"

	"plexus/api"
	"plexus/lattice"
)

// latticeKinds are the kinds of nodes with the kinds of the lattices that they denote.
var latticeKinds = [...][2]int{
	{api.NodeFlag, api.Flag}, {api.NodeMax, api.Max}, {api.NodeMin, api.Min}, {api.NodeSet, api.Set}, {api.NodeMap, api.Map},
	{api.NodeProduct, api.Product}, {api.NodeLex, api.Lex}, {api.NodeFlat, api.Flat}, {api.NodeRegister, api.Register}, {api.NodeClosed, api.Closed},
}

// describer makes descriptions. Its functions visit the nodes in preorder, so the first fault that they find is the first of the tree.
type describer struct {
	faults
	known []api.Object
}

// describe returns the description that a tree denotes, or the first fault. It may share memory with known.
func describe(known []api.Object, n api.Node) (api.Lattice, api.Fault) {
	d := describer{known: known}
	l := d.lattice(n)
	if e := lattice.Check(l); e != api.OK {
		d.fail(e, n.At)
	}
	if d.failed() {
		return api.Lattice{}, d.fault
	}
	return l, api.Fault{}
}

// lattice returns the description that a tree denotes.
func (d *describer) lattice(n api.Node) api.Lattice {
	if n.Kind == api.NodeNamed {
		return d.named(n)
	}
	l := api.Lattice{Kind: latticeKind(n.Kind)}
	switch n.Kind {
	case api.NodeMax, api.NodeMin:
		l.Lo, l.Hi = n.Kids[0].N, n.Kids[1].N
	case api.NodeSet, api.NodeFlat:
		l.Names = d.distinct(n.Kids)
	case api.NodeMap:
		last := len(n.Kids) - 1
		l.Names = d.distinct(n.Kids[:last])
		l.Parts = []api.Lattice{d.lattice(n.Kids[last])}
	case api.NodeLex:
		l.Parts = []api.Lattice{d.lattice(n.Kids[0]), d.lattice(n.Kids[1])}
	case api.NodeProduct:
		d.members(&l, n.Kids)
	case api.NodeClosed:
		d.closed(&l, n.Kids)
	}
	return l
}

// named returns a description that is known by a name.
func (d *describer) named(n api.Node) api.Lattice {
	for _, o := range d.known {
		if o.Name == n.Text {
			return o.Lattice
		}
	}
	d.fail(api.ErrName, n.At)
	return api.Lattice{}
}

// members adds the fields of a product.
func (d *describer) members(l *api.Lattice, kids []api.Node) {
	seen := map[string]bool{}
	for _, kid := range kids {
		d.once(seen, kid)
		l.Names = append(l.Names, kid.Text)
		l.Parts = append(l.Parts, d.lattice(kid.Kids[0]))
	}
}

// closed adds the names and the rules of closed sets.
func (d *describer) closed(l *api.Lattice, kids []api.Node) {
	count := 0
	for count < len(kids) && kids[count].Kind == api.NodeQuote {
		count++
	}
	l.Names = d.distinct(kids[:count])
	for _, kid := range kids[count:] {
		last := len(kid.Kids) - 1
		l.Rules = append(l.Rules, api.Rule{If: d.distinct(kid.Kids[:last]), Then: kid.Kids[last].Text})
	}
}

// distinct returns the texts of nodes, sorted.
func (d *describer) distinct(nodes []api.Node) []string {
	var list []string
	seen := map[string]bool{}
	for _, n := range nodes {
		d.once(seen, n)
		list = append(list, n.Text)
	}
	slices.Sort(list)
	return list
}

// once fails at a node whose text was seen before.
func (d *describer) once(seen map[string]bool, n api.Node) {
	if seen[n.Text] {
		d.fail(api.ErrName, n.At)
	}
	seen[n.Text] = true
}

// latticeKind returns the kind of the lattices that nodes of a kind denote.
func latticeKind(node int) int {
	for _, row := range latticeKinds {
		if row[0] == node {
			return row[1]
		}
	}
	return 0
}
