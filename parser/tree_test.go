package parser_test

import (
	"strconv"
	"strings"

	"plexus/api"
)

// kindName returns a short name of a kind of nodes.
func kindName(kind int) string {
	names := map[int]string{
		api.NodeProgram: "program", api.NodeLattice: "lattice", api.NodeObject: "object", api.NodeUpdate: "update", api.NodeQuery: "query", api.NodeParam: "param",
		api.NodeFlag: "flag", api.NodeMax: "max", api.NodeMin: "min", api.NodeSet: "set", api.NodeMap: "map", api.NodeProduct: "product", api.NodeLex: "lex", api.NodeFlat: "flat", api.NodeRegister: "register", api.NodeClosed: "closed", api.NodeRule: "rule", api.NodeNamed: "named", api.NodeMember: "member",
		api.NodeIf: "if", api.NodeOr: "or", api.NodeAnd: "and", api.NodeNot: "not", api.NodeLessEq: "lesseq", api.NodeLess: "less", api.NodeEqual: "equal", api.NodeIn: "in", api.NodeLeq: "leq", api.NodeJoin: "join", api.NodePlus: "plus", api.NodeMinus: "minus", api.NodeField: "field", api.NodeIndex: "index",
		api.NodeInt: "int", api.NodeTrue: "true", api.NodeFalse: "false", api.NodeQuote: "quote", api.NodeName: "name", api.NodeState: "state", api.NodeBottom: "bottom", api.NodeCall: "call", api.NodeEntry: "entry",
	}
	if s, ok := names[kind]; ok {
		return s
	}
	return strconv.Itoa(kind)
}

// dump returns all fields of a tree as a text: for each node the kind, the Text behind a colon, N behind = and At behind @, both of the former only where they are not zero, and the kids in parentheses.
func dump(n api.Node) string {
	var b strings.Builder
	b.WriteString(kindName(n.Kind))
	if n.Text != "" {
		b.WriteString(":" + n.Text)
	}
	if n.N != 0 {
		b.WriteString("=" + strconv.FormatInt(n.N, 10))
	}
	b.WriteString("@" + strconv.Itoa(n.At))
	for i, kid := range n.Kids {
		b.WriteString([]string{"(", " "}[min(i, 1)])
		b.WriteString(dump(kid))
	}
	if len(n.Kids) > 0 {
		b.WriteString(")")
	}
	return b.String()
}

// clone returns a copy of a tree, which shares no memory with it.
func clone(n api.Node) api.Node {
	kids := n.Kids
	n.Kids = nil
	for _, kid := range kids {
		n.Kids = append(n.Kids, clone(kid))
	}
	return n
}

// nodes returns pointers to all nodes of a tree.
func nodes(n *api.Node) []*api.Node {
	list := []*api.Node{n}
	for i := range n.Kids {
		list = append(list, nodes(&n.Kids[i])...)
	}
	return list
}
