package types

import (
	"slices"

	"plexus/api"
)

// functionTree returns the declaration of a valid function.
func functionTree(kind int, f api.Function) api.Node {
	n := api.Node{Kind: kind, Text: f.Name, N: int64(f.Result)}
	for _, p := range f.Params {
		n.Kids = append(n.Kids, api.Node{Kind: api.NodeParam, Text: p.Name, N: int64(p.Sort)})
	}
	n.Kids = append(n.Kids, api.Node{Kind: api.NodeName, Text: f.On}, expressionTree(f.Params, f.Body))
	return n
}

// latticeTree returns a tree that denotes a valid description.
func latticeTree(l api.Lattice) api.Node {
	var n api.Node
	for _, row := range latticeKinds {
		if row[1] == l.Kind {
			n.Kind = row[0]
		}
	}
	switch l.Kind {
	case api.Max, api.Min:
		n.Kids = []api.Node{{Kind: api.NodeInt, N: l.Lo}, {Kind: api.NodeInt, N: l.Hi}}
	case api.Product:
		for i, name := range l.Names {
			n.Kids = append(n.Kids, api.Node{Kind: api.NodeMember, Text: name, Kids: []api.Node{latticeTree(l.Parts[i])}})
		}
	default:
		n.Kids = quotes(l.Names...)
		for _, part := range l.Parts {
			n.Kids = append(n.Kids, latticeTree(part))
		}
		for _, r := range l.Rules {
			n.Kids = append(n.Kids, api.Node{Kind: api.NodeRule, Kids: append(quotes(r.If...), quotes(r.Then)...)})
		}
	}
	return n
}

// quotes returns the nodes of quoted names.
func quotes(list ...string) []api.Node {
	var nodes []api.Node
	for _, s := range list {
		nodes = append(nodes, api.Node{Kind: api.NodeQuote, Text: s})
	}
	return nodes
}

// expressionTree returns a tree whose elaboration with these parameters is e, if e is an elaboration. Otherwise the result may be no tree; its elaboration, if it has one, is not e.
func expressionTree(params []api.Param, e api.Expr) api.Node {
	n := api.Node{At: e.At}
	n.Kind, n.Text = kindOf(e.Op)
	for _, kid := range e.Kids {
		n.Kids = append(n.Kids, expressionTree(params, kid))
	}
	switch e.Op {
	case api.XInt:
		n.N = e.N
	case api.XBool:
		if e.N == 0 {
			n.Kind = api.NodeFalse
		}
	case api.XName:
		n.Text = e.Text
	case api.XParam:
		if e.N < 0 || e.N >= int64(len(params)) {
			return api.Node{}
		}
		n.Text = params[e.N].Name
	case api.XField:
		n.Text = fieldName(e)
	case api.XMap:
		return mapTree(n)
	case api.XRec:
		return recordTree(n, e)
	}
	return n
}

// fieldName returns the name of the field that e selects, or an empty string, which is no name.
func fieldName(e api.Expr) string {
	if len(e.Kids) == 0 {
		return ""
	}
	fields := e.Kids[0].Type.Lattice.Names
	if e.N < 0 || e.N >= int64(len(fields)) {
		return ""
	}
	return fields[e.N]
}

// mapTree makes entries of the kids of n, which are keys and values by turns.
func mapTree(n api.Node) api.Node {
	var entries []api.Node
	for pair := range slices.Chunk(n.Kids, 2) {
		entries = append(entries, api.Node{Kind: api.NodeEntry, At: pair[0].At, Kids: slices.Clone(pair)})
	}
	n.Kids = entries
	return n
}

// recordTree makes entries of the kids of n, which are the values of all fields. A bottom with the offset of the call needs none.
func recordTree(n api.Node, e api.Expr) api.Node {
	fields := e.Type.Lattice.Names
	if len(n.Kids) != len(fields) {
		return api.Node{}
	}
	var entries []api.Node
	for i, kid := range n.Kids {
		if kid.Kind != api.NodeBottom || kid.At != n.At {
			entries = append(entries, api.Node{Kind: api.NodeEntry, Text: fields[i], At: kid.At, Kids: []api.Node{kid}})
		}
	}
	n.Kids = entries
	return n
}
