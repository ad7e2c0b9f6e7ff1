package schema

import (
	"plexus/api"
	"plexus/inflation"
	"plexus/printer"
	"plexus/variance"
)

// function is an update or a query of which is known whether it is accepted.
type function struct {
	api.Function
	accepted bool
}

// isUpdate reports whether a function is an update.
func (f function) isUpdate() bool { return f.Result == 0 }

// newSchema returns the schema of a tree and its checked program.
func newSchema(tree api.Node, program api.Program) *Schema {
	// A source can be so tight that the canonical one would be longer than a source may be. Then there is none, and it is empty.
	source, _ := printer.Print(tree)
	s := &Schema{program: program, source: source, lattices: map[string]api.Lattice{}, functions: map[string]function{}}
	for _, o := range program.Objects {
		s.lattices[o.Name] = o.Lattice
	}
	s.add(program.Updates, s.isInflationary)
	s.add(program.Queries, variance.Monotone)
	return s
}

// add notes functions of one kind, which are judged in their own way.
func (s *Schema) add(list []api.Function, accepts func(f api.Function) bool) {
	for _, f := range list {
		s.functions[f.Name] = function{f, accepts(f)}
	}
}

// isInflationary reports whether an update is accepted for the lattice of its object.
func (s *Schema) isInflationary(f api.Function) bool {
	ok, _ := inflation.Check(s.lattices[f.On], f)
	return ok
}
