package printer

import "plexus/api"

// sorts are the words of the sorts from 1 on.
var sorts = [...]string{"int", "bool", "name", "names"}

// declaration prints a declaration without its last sign.
func (p *printer) declaration(n api.Node) {
	switch n.Kind {
	case api.NodeLattice:
		p.put("lattice ", n.Text, " = ")
		p.lattice(n.Kids[0])
	case api.NodeObject:
		p.put("object ", n.Text, ": ")
		p.lattice(n.Kids[0])
	case api.NodeUpdate:
		p.put("update ", n.Text)
		p.function(n.Kids, "")
	case api.NodeQuery:
		p.put("query ", n.Text)
		p.function(n.Kids, ": "+sort(n))
	}
}

// function prints what stands behind the name of a function, with its result behind the object.
func (p *printer) function(kids []api.Node, result string) {
	object := len(kids) - 2
	p.put("(")
	p.list(kids[:object], func(n api.Node) { p.put(n.Text, ": ", sort(n)) })
	p.put(") on ", kids[object].Text, result, " = ")
	p.expression(kids[object+1])
}

// sort returns the word of the sort of a node.
func sort(n api.Node) string {
	return sorts[n.N-1]
}
