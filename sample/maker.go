package sample

import (
	"slices"

	"plexus/api"
)

// Of returns the type of the elements of a lattice.
func Of(l api.Lattice) api.Type { return api.Type{Lattice: l} }

// Sort returns the type of the data of a sort.
func Sort(sort int) api.Type { return api.Type{Sort: sort} }

// Made is a syntax tree with its elaboration.
type Made struct {
	Tree api.Node
	Expr api.Expr
}

// Step is the elaboration of one expression: its offset, its type, whether this is expected whatever other expressions are, and whether the expression is open.
type Step struct {
	At     int
	Type   api.Type
	Strict bool
	Open   bool
}

// Maker makes random expressions together with their elaborations. It knows the type of each expression before it makes it, so that there are no faults.
type Maker struct {
	Intn    func(n int) int // decides everything
	Lattice api.Lattice     // of the object
	Params  []api.Param     // some of all sorts
	Steps   []Step          // of all expressions that were made, in the order of elaboration
	used    map[int]bool    // offsets
}

// What the elaboration of an expression knows of its type.
const (
	Unknown = 1 // nothing: the expression must not be open
	Told    = 2 // the type of another expression
	Sure    = 3
	opened  = 4 // as Told, and the expression has to be open
)

// omitted is a mark for the bottoms of fields without an entry.
const omitted = -1 << 60

// NewMaker returns a maker of expressions on an object with the lattice l.
func NewMaker(intn func(n int) int, l api.Lattice) *Maker {
	m := &Maker{Intn: intn, Lattice: l, used: map[int]bool{}}
	for i, sort := range m.order(8) {
		m.Params = append(m.Params, api.Param{Name: []string{"s", "if", "k", "x-1", "p", "q", "set", "z"}[i], Sort: 1 + sort%4})
	}
	return m
}

// Make makes an expression of the type t. What is called how is Unknown, Told or Sure.
func (m *Maker) Make(t api.Type, how int, depth int) Made {
	at := m.offset()
	index := len(m.Steps)
	m.Steps = append(m.Steps, Step{At: at, Type: t, Strict: how == Sure})
	var x Made
	if t.Sort != 0 {
		x = m.data(t, how, depth)
	} else {
		x = m.elements(t, how, depth)
	}
	x.Tree.At, x.Expr.At, x.Expr.Type = at, at, t
	fixBottoms(&x)
	m.Steps[index].Open = IsOpen(x.Tree)
	return x
}

// Readable returns the types of which there are expressions that are not open.
func (m *Maker) Readable() []api.Type {
	list := []api.Type{Of(api.Lattice{Kind: api.Register})}
	for _, path := range paths(Of(m.Lattice)) {
		list = append(list, end(Of(m.Lattice), path))
	}
	return list
}

// IsOpen reports whether an expression is open.
func IsOpen(n api.Node) bool {
	switch n.Kind {
	case api.NodeBottom:
		return true
	case api.NodeCall:
		return slices.Contains([]string{"flag", "num", "set", "map", "rec", "pair", "one"}, n.Text)
	case api.NodeJoin:
		return IsOpen(n.Kids[0]) && IsOpen(n.Kids[1])
	case api.NodeIf:
		return IsOpen(n.Kids[1]) && IsOpen(n.Kids[2])
	}
	return false
}

// Reads reports whether a function of the language reads values of a type.
func Reads(function string, t api.Type) bool {
	kinds := map[string][]int{
		"size": {api.Set, api.Map, api.Register, api.Closed}, "sum": {api.Map}, "number": {api.Max, api.Min}, "on": {api.Flag}, "keys": {api.Map, api.Set, api.Closed}, "values": {api.Flat, api.Register}, "conflict": {api.Flat, api.Register}, "first": {api.Lex}, "second": {api.Lex},
	}[function]
	if t.Sort != 0 {
		return function == "size" && t.Sort == api.SortNames
	}
	if function == "sum" && t.Lattice.Kind == api.Map {
		return t.Lattice.Parts[0].Kind == api.Max || t.Lattice.Parts[0].Kind == api.Min
	}
	return function != "sum" && slices.Contains(kinds, t.Lattice.Kind)
}

// placed gives an expression an offset and its type.
func (m *Maker) placed(x Made, t api.Type) Made {
	at := m.offset()
	x.Tree.At, x.Expr.At, x.Expr.Type = at, at, t
	fixBottoms(&x)
	return x
}

// offset returns an offset that no other node has.
func (m *Maker) offset() int {
	for {
		at := m.Intn(1000000) - 1000
		if !m.used[at] {
			m.used[at] = true
			return at
		}
	}
}

// order returns the numbers from 0 to n-1 in some order.
func (m *Maker) order(n int) []int {
	var list []int
	for i := range n {
		list = slices.Insert(list, m.Intn(i+1), i)
	}
	return list
}

// one returns an element of a list.
func one[T any](m *Maker, list ...T) T { return list[m.Intn(len(list))] }

// compose returns a node of a kind and an operation with the same kids.
func compose(kind int, text string, op int, kids ...Made) Made {
	x := Made{Tree: api.Node{Kind: kind, Text: text}, Expr: api.Expr{Op: op}}
	for _, kid := range kids {
		x.Tree.Kids = append(x.Tree.Kids, kid.Tree)
		x.Expr.Kids = append(x.Expr.Kids, kid.Expr)
	}
	return x
}

// fixBottoms gives the bottoms of the fields that have no entry the offset of their call.
func fixBottoms(x *Made) {
	if x.Expr.Op == api.XRec {
		for i := range x.Expr.Kids {
			if x.Expr.Kids[i].At == omitted {
				x.Expr.Kids[i].At = x.Expr.At
			}
		}
	}
}
