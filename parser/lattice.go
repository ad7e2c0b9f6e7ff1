package parser

import "plexus/api"

// lattice returns the tree of a lattice.
func (p *parser) lattice() api.Node {
	switch p.word() {
	case "flag":
		return p.bare(api.NodeFlag)
	case "register":
		return p.bare(api.NodeRegister)
	case "set":
		return p.choice(api.NodeSet)
	case "flat":
		return p.choice(api.NodeFlat)
	case "max":
		return p.span(api.NodeMax)
	case "min":
		return p.span(api.NodeMin)
	case "map":
		return p.mapped()
	case "lex":
		return p.pair()
	case "{":
		return p.product()
	case "closed":
		return p.closed()
	}
	return p.name(api.NodeNamed)
}

// choice returns the tree of a lattice that may have allowed names.
func (p *parser) choice(kind int) api.Node {
	n := p.bare(kind)
	n.Kids = p.allowed()
	return n
}

// allowed returns the allowed names in parentheses, or none.
func (p *parser) allowed() []api.Node {
	if p.word() != "(" {
		return nil
	}
	p.next()
	list := p.list(p.quote)
	p.take(")")
	return list
}

// span returns the tree of the integers between two of them.
func (p *parser) span(kind int) api.Node {
	n := p.bare(kind)
	n.Kids = p.two(p.integer)
	return n
}

// two returns two items in parentheses.
func (p *parser) two(item func() api.Node) []api.Node {
	p.take("(")
	first := item()
	p.take(",")
	second := item()
	p.take(")")
	return []api.Node{first, second}
}

// mapped returns the tree of maps.
func (p *parser) mapped() api.Node {
	n := api.Node{Kind: api.NodeMap, At: p.enter("map").At}
	n.Kids = append(p.allowed(), p.lattice())
	p.leave()
	return n
}

// pair returns the tree of a lexicographic pair.
func (p *parser) pair() api.Node {
	n := api.Node{Kind: api.NodeLex, At: p.enter("lex").At}
	n.Kids = p.two(p.lattice)
	p.leave()
	return n
}

// product returns the tree of a product.
func (p *parser) product() api.Node {
	n := api.Node{Kind: api.NodeProduct, At: p.enter("{").At}
	n.Kids = p.list(p.member)
	p.take("}")
	p.leave()
	return n
}

// member returns the tree of a field of a product.
func (p *parser) member() api.Node {
	return p.labelled(api.NodeMember, p.lattice)
}

// closed returns the tree of closed sets.
func (p *parser) closed() api.Node {
	n := p.bare(api.NodeClosed)
	p.take("(")
	n.Kids = p.quotes()
	for p.word() == ";" {
		p.next()
		n.Kids = append(n.Kids, p.rule())
	}
	p.take(")")
	return n
}

// rule returns the tree of a rule.
func (p *parser) rule() api.Node {
	n := api.Node{Kind: api.NodeRule, At: p.peek().At}
	n.Kids = p.quotes()
	p.take("=>")
	n.Kids = append(n.Kids, p.quote())
	return n
}

// quotes returns any number of quoted names.
func (p *parser) quotes() []api.Node {
	if p.peek().Kind != api.TokQuoted {
		return nil
	}
	return p.list(p.quote)
}
