package printer

import "plexus/api"

// lattice prints a lattice.
func (p *printer) lattice(n api.Node) {
	last := len(n.Kids) - 1
	switch n.Kind {
	case api.NodeNamed:
		p.put(n.Text)
	case api.NodeFlag, api.NodeRegister:
		p.put(p.words[n.Kind])
	case api.NodeSet, api.NodeFlat:
		p.put(p.words[n.Kind])
		p.allowed(n.Kids)
	case api.NodeMax, api.NodeMin:
		p.put(p.words[n.Kind], "(")
		p.list(n.Kids, p.integer)
		p.put(")")
	case api.NodeMap:
		p.enter("map")
		p.allowed(n.Kids[:last])
		p.put(" ")
		p.lattice(n.Kids[last])
		p.leave()
	case api.NodeLex:
		p.enter("lex(")
		p.list(n.Kids, p.lattice)
		p.leave(")")
	case api.NodeProduct:
		p.enter("{")
		p.list(n.Kids, p.member)
		p.leave("}")
	case api.NodeClosed:
		p.closed(n.Kids)
	}
}

// allowed prints the allowed names in parentheses, if there are some.
func (p *printer) allowed(quotes []api.Node) {
	if len(quotes) > 0 {
		p.put("(")
		p.list(quotes, p.quote)
		p.put(")")
	}
}

// member prints a field of a product.
func (p *printer) member(n api.Node) {
	p.put(n.Text, ": ")
	p.lattice(n.Kids[0])
}

// closed prints closed sets, with their names and the rules behind these.
func (p *printer) closed(kids []api.Node) {
	p.put("closed(")
	for i, kid := range kids {
		switch {
		case kid.Kind == api.NodeRule:
			p.put("; ")
			p.rule(kid.Kids)
			continue
		case i > 0:
			p.put(", ")
		}
		p.quote(kid)
	}
	p.put(")")
}

// rule prints a rule with its premises and, behind them, its conclusion.
func (p *printer) rule(kids []api.Node) {
	last := len(kids) - 1
	if last > 0 {
		p.list(kids[:last], p.quote)
		p.put(" ")
	}
	p.put("=> ")
	p.quote(kids[last])
}
