package printer

import (
	"strconv"

	"plexus/api"
	"plexus/lexer"
	"plexus/parser"
)

// printer appends what is printed to a text. When a limit is exceeded it only stops: the nodes have been checked before, so there is no other error left.
type printer struct {
	words map[int]string
	text  []byte
	open  int // how many constructs are open at the end of the text
	over  bool
}

// newPrinter returns a printer that has printed nothing.
func newPrinter() *printer {
	return &printer{words: words()}
}

// result returns what was printed.
func (p *printer) result() (string, api.Errno) {
	if p.over {
		return "", api.ErrLimit
	}
	return string(p.text), api.OK
}

// put prints parts, one behind the other.
func (p *printer) put(parts ...string) {
	for _, part := range parts {
		if len(part) > lexer.MaxSource-len(p.text) {
			p.over = true
		}
		if p.over {
			return
		}
		p.text = append(p.text, part...)
	}
}

// enter prints what a construct begins with.
func (p *printer) enter(parts ...string) {
	p.open++
	if p.open > parser.MaxNesting {
		p.over = true
	}
	p.put(parts...)
}

// leave prints what a construct ends with.
func (p *printer) leave(parts ...string) {
	p.put(parts...)
	p.open--
}

// list prints nodes with commas between them.
func (p *printer) list(nodes []api.Node, one func(n api.Node)) {
	for i, n := range nodes {
		if i > 0 {
			p.put(", ")
		}
		one(n)
	}
}

// quote prints a quoted name.
func (p *printer) quote(n api.Node) {
	p.put("'", n.Text, "'")
}

// integer prints an integer.
func (p *printer) integer(n api.Node) {
	p.put(strconv.FormatInt(n.N, 10))
}

// words returns how the nodes are written whose kind has one word or sign.
func words() map[int]string {
	return map[int]string{
		api.NodeFlag: "flag", api.NodeRegister: "register", api.NodeSet: "set", api.NodeFlat: "flat", api.NodeMax: "max", api.NodeMin: "min",
		api.NodeOr: "or", api.NodeAnd: "and", api.NodeLessEq: "<=", api.NodeLess: "<", api.NodeEqual: "==", api.NodeIn: "in", api.NodeLeq: "leq",
		api.NodeJoin: "join", api.NodePlus: "+", api.NodeMinus: "-",
		api.NodeTrue: "true", api.NodeFalse: "false", api.NodeState: "s", api.NodeBottom: "bottom",
	}
}
