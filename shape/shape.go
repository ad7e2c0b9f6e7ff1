// Package shape says which nodes are the syntax trees that chapter 16 describes (shared/doc/16-parser.md), whatever their offsets and the numbers of their integers. The printer and the types need it: they are given nodes that no parser has made.
package shape

import (
	"plexus/api"
	"plexus/names"
)

// Program reports whether n is the tree of a program. The texts at the places of a NAME are those for which isName holds.
func Program(n api.Node, isName func(s string) bool) bool {
	c := checker{isName}
	return n.Kind == api.NodeProgram && isBare(n) && every(n.Kids, c.declaration)
}

// Expression reports whether n is the tree of an expression.
func Expression(n api.Node, isName func(s string) bool) bool {
	return checker{isName}.expression(n)
}

// Lattice reports whether n is the tree of a lattice.
func Lattice(n api.Node, isName func(s string) bool) bool {
	return checker{isName}.lattice(n)
}

// checker has a function for each construct of the grammar, which reports whether a node is the tree of one.
type checker struct {
	isName func(s string) bool
}

// declaration is about a declaration.
func (c checker) declaration(n api.Node) bool {
	switch n.Kind {
	case api.NodeLattice, api.NodeObject:
		return c.isNamed(n) && len(n.Kids) == 1 && c.lattice(n.Kids[0])
	case api.NodeUpdate:
		return c.isNamed(n) && c.function(n.Kids)
	case api.NodeQuery:
		return c.isSorted(n) && c.function(n.Kids)
	}
	return false
}

// function is about the kids of an update or a query.
func (c checker) function(kids []api.Node) bool {
	body := len(kids) - 1
	return body >= 1 && every(kids[:body-1], c.param) && kids[body-1].Kind == api.NodeName && c.expression(kids[body-1]) && c.expression(kids[body])
}

// param is about a parameter.
func (c checker) param(n api.Node) bool {
	return n.Kind == api.NodeParam && c.isSorted(n) && len(n.Kids) == 0
}

// isNamed reports whether a node has a name and no number.
func (c checker) isNamed(n api.Node) bool {
	return c.isName(n.Text) && n.N == 0
}

// isSorted reports whether a node has a name and a sort.
func (c checker) isSorted(n api.Node) bool {
	return c.isName(n.Text) && n.N >= api.SortInt && n.N <= api.SortNames
}

// isBare reports whether a node has neither a text nor a number.
func isBare(n api.Node) bool {
	return n.Text == "" && n.N == 0
}

// quote is about a quoted name.
func quote(n api.Node) bool {
	return n.Kind == api.NodeQuote && names.Valid(n.Text) && n.N == 0 && len(n.Kids) == 0
}

// integer is about an integer.
func integer(n api.Node) bool {
	return n.Kind == api.NodeInt && n.Text == "" && len(n.Kids) == 0
}

// every reports whether all nodes of a list are what is says.
func every(list []api.Node, is func(n api.Node) bool) bool {
	for _, n := range list {
		if !is(n) {
			return false
		}
	}
	return true
}
