package types

import "plexus/api"

// tree is a syntax tree of an expression in which it is noted which nodes are open. Each join asks this of its operands, so it must not be found out anew each time.
type tree struct {
	api.Node
	open bool
	kids []tree
}

// mark returns a tree with its notes.
func mark(n api.Node) tree {
	t := tree{Node: n, kids: make([]tree, len(n.Kids))}
	for i, kid := range n.Kids {
		t.kids[i] = mark(kid)
	}
	switch n.Kind {
	case api.NodeBottom:
		t.open = true
	case api.NodeCall:
		t.open = len(makes(n.Text)) > 0
	case api.NodeJoin:
		t.open = t.kids[0].open && t.kids[1].open
	case api.NodeIf:
		t.open = t.kids[1].open && t.kids[2].open
	}
	return t
}
