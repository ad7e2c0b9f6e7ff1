package parser

import "plexus/api"

// program returns the tree of a program.
func (p *parser) program() api.Node {
	n := api.Node{Kind: api.NodeProgram}
	for p.peek().Kind != api.TokEnd {
		n.Kids = append(n.Kids, p.declaration())
		p.take(";")
	}
	return n
}

// declaration returns the tree of a declaration without its last sign.
func (p *parser) declaration() api.Node {
	switch p.word() {
	case "lattice":
		return p.described(api.NodeLattice, "=")
	case "object":
		return p.described(api.NodeObject, ":")
	case "update":
		return p.function(api.NodeUpdate)
	case "query":
		return p.function(api.NodeQuery)
	}
	panic(p.fault(api.ErrSyntax))
}

// described returns the declaration of a lattice or an object.
func (p *parser) described(kind int, sign string) api.Node {
	n := p.head(kind)
	p.take(sign)
	n.Kids = []api.Node{p.lattice()}
	return n
}

// function returns the declaration of an update or a query.
func (p *parser) function(kind int) api.Node {
	n := p.head(kind)
	p.take("(")
	if p.word() != ")" {
		n.Kids = p.list(p.param)
	}
	p.take(")")
	p.take("on")
	n.Kids = append(n.Kids, p.name(api.NodeName))
	if kind == api.NodeQuery {
		p.take(":")
		n.N = p.sort()
	}
	p.take("=")
	n.Kids = append(n.Kids, p.expression())
	return n
}

// head returns a node for the keyword of a declaration and the name behind it.
func (p *parser) head(kind int) api.Node {
	n := p.bare(kind)
	n.Text = p.takeKind(api.TokName).Text
	return n
}

// param returns the tree of a parameter.
func (p *parser) param() api.Node {
	n := p.name(api.NodeParam)
	p.take(":")
	n.N = p.sort()
	return n
}

// sort takes a sort and returns its number.
func (p *parser) sort() int64 {
	var sort int64
	switch p.word() {
	case "int":
		sort = api.SortInt
	case "bool":
		sort = api.SortBool
	case "name":
		sort = api.SortName
	case "names":
		sort = api.SortNames
	default:
		panic(p.fault(api.ErrSyntax))
	}
	p.next()
	return sort
}
