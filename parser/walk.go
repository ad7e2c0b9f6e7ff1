package parser

import (
	"plexus/api"
	"plexus/lexer"
)

// parser walks over the tokens of a source. Each function of the grammar reads one construct and returns its tree. A fault is a panic with an api.Fault, so that these functions need not pass it on.
type parser struct {
	tokens []api.Token // the last one is the end, which no function of the grammar takes
	at     int         // the index of the next token
	open   int         // how many constructs are open in front of it
}

// whole returns the tree of a source that is one construct, or the first fault.
func (p *parser) whole(source string, construct func() api.Node) (tree api.Node, fault api.Fault) {
	p.tokens, fault = lexer.Lex(source)
	if fault.Code != api.OK {
		return api.Node{}, fault
	}
	defer func() {
		if r := recover(); r != nil {
			tree, fault = api.Node{}, r.(api.Fault)
		}
	}()
	tree = construct()
	if p.peek().Kind != api.TokEnd {
		panic(p.fault(api.ErrSyntax))
	}
	return tree, api.Fault{}
}

// fault returns a fault at the next token.
func (p *parser) fault(code api.Errno) api.Fault {
	return api.Fault{Code: code, At: p.peek().At}
}

// peek returns the next token.
func (p *parser) peek() api.Token {
	return p.tokens[p.at]
}

// word returns the next token if it is a keyword or a sign, and otherwise an empty string, as which no token is written.
func (p *parser) word() string {
	t := p.peek()
	if t.Kind == api.TokKeyword || t.Kind == api.TokSign {
		return t.Text
	}
	return ""
}

// next takes the next token, which is not the end.
func (p *parser) next() api.Token {
	t := p.peek()
	p.at++
	return t
}

// take takes a keyword or a sign.
func (p *parser) take(word string) api.Token {
	if p.word() != word {
		panic(p.fault(api.ErrSyntax))
	}
	return p.next()
}

// takeKind takes a token of a kind, which is not the end.
func (p *parser) takeKind(kind int) api.Token {
	if p.peek().Kind != kind {
		panic(p.fault(api.ErrSyntax))
	}
	return p.next()
}

// enter takes a keyword or a sign that opens a construct.
func (p *parser) enter(word string) api.Token {
	if p.word() == word && p.open == MaxNesting {
		panic(p.fault(api.ErrLimit))
	}
	p.open++
	return p.take(word)
}

// leave ends the construct that was opened last.
func (p *parser) leave() {
	p.open--
}

// list returns one or more items with commas between them.
func (p *parser) list(item func() api.Node) []api.Node {
	items := []api.Node{item()}
	for p.word() == "," {
		p.next()
		items = append(items, item())
	}
	return items
}

// bare returns a leaf for the next token, which its kind says already.
func (p *parser) bare(kind int) api.Node {
	return api.Node{Kind: kind, At: p.next().At}
}

// name returns a leaf for a name.
func (p *parser) name(kind int) api.Node {
	t := p.takeKind(api.TokName)
	return api.Node{Kind: kind, Text: t.Text, At: t.At}
}

// quote returns a leaf for a quoted name.
func (p *parser) quote() api.Node {
	t := p.takeKind(api.TokQuoted)
	return api.Node{Kind: api.NodeQuote, Text: t.Text, At: t.At}
}

// integer returns a leaf for an integer.
func (p *parser) integer() api.Node {
	if p.word() == "-" {
		at := p.next().At
		return api.Node{Kind: api.NodeInt, N: -p.takeKind(api.TokInt).N, At: at}
	}
	t := p.takeKind(api.TokInt)
	return api.Node{Kind: api.NodeInt, N: t.N, At: t.At}
}

// labelled returns a node for a name with a colon and a part behind it.
func (p *parser) labelled(kind int, part func() api.Node) api.Node {
	n := p.name(kind)
	p.take(":")
	n.Kids = []api.Node{part()}
	return n
}
