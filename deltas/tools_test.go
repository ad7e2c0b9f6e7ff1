package deltas_test

import (
	"fmt"
	"math/rand"
	"slices"
	"testing"

	"plexus/api"
	"plexus/parser"
	"plexus/sample"
	"plexus/types"
	"plexus/value"
)

// text returns all fields of a value as a text. Nil and empty slices have the same text.
func text(x any) string { return fmt.Sprintf("%+v", x) }

// params are the parameters of the rows.
func params() []api.Param {
	return []api.Param{{Name: "i", Sort: api.SortInt}, {Name: "b", Sort: api.SortBool}, {Name: "x", Sort: api.SortName}, {Name: "l", Sort: api.SortNames}}
}

// described returns the description of a source.
func described(t *testing.T, source string) api.Lattice {
	t.Helper()
	n, fault := parser.Lattice(source)
	if fault.Code != api.OK {
		t.Fatalf("%s: %v", source, fault)
	}
	l, fault := types.Lattice(nil, n)
	if fault.Code != api.OK {
		t.Fatalf("%s: %v", source, fault)
	}
	return l
}

// update returns the update of an object with the lattice l whose body has a source.
func update(t *testing.T, l api.Lattice, source string) api.Function {
	t.Helper()
	n, fault := parser.Expression(source)
	if fault.Code != api.OK {
		t.Fatalf("%s: %v", source, fault)
	}
	x, fault := types.Expression(l, params(), api.Type{Lattice: l}, n)
	if fault.Code != api.OK {
		t.Fatalf("%s: %v", source, fault)
	}
	return api.Function{Name: "u", On: "o", Params: params(), Body: x}
}

// name returns a datum of the sort name.
func name(s string) api.Datum { return api.Datum{Sort: api.SortName, Name: s} }

// without returns an expression without its offsets.
func without(x api.Expr) api.Expr {
	x.At = 0
	kids := x.Kids
	x.Kids = nil
	for _, kid := range kids {
		x.Kids = append(x.Kids, without(kid))
	}
	return x
}

// call is a random update of an object, with a state and arguments.
type call struct {
	l    api.Lattice
	m    *sample.Maker
	f    api.Function
	s    api.Value
	args []api.Datum
}

// calls checks random updates of many objects: most of them contain paths to the parts of the state in the places of these parts.
func calls(t *testing.T, seed int64, count int, do func(source *rand.Rand, c call)) {
	t.Helper()
	source := rand.New(rand.NewSource(seed))
	for range count {
		for i, l := range sample.Objects() {
			c := call{l: l, m: sample.NewMaker(source.Intn, l), s: sample.Element(source.Intn, l)}
			if source.Intn(2) == 0 {
				c.s, _ = value.Bottom(l)
			}
			c.args = sample.Arguments(source.Intn, c.m.Params)
			r := mirror{source, c.m}
			body := r.of(state(l), 1+source.Intn(4))
			if i%8 == 0 {
				body = c.m.Make(sample.Of(l), sample.Sure, source.Intn(4)).Expr
			} else if i%2 == 0 {
				body = api.Expr{Op: api.XJoin, Type: body.Type, At: -1, Kids: []api.Expr{body, r.m.Adding(body.Type).Expr}}
			}
			c.f = api.Function{Name: "u", On: "o", Params: c.m.Params, Body: body}
			if !types.Valid(l, c.f) {
				t.Fatalf("%+v is not valid", c.f)
			}
			do(source, c)
		}
	}
}

// mirror makes random expressions that have paths, and paths that are nearly the same, in the places of these paths.
type mirror struct {
	*rand.Rand
	m *sample.Maker
}

// of returns an expression for a path.
func (r mirror) of(path api.Expr, depth int) api.Expr {
	if depth <= 0 || r.Intn(5) == 0 {
		return r.leaf(path)
	}
	x := api.Expr{Type: path.Type, At: r.Intn(1000)}
	switch choice := r.Intn(8); {
	case choice == 0:
		return r.m.Make(path.Type, sample.Sure, depth).Expr
	case choice == 1:
		x.Op, x.Kids = api.XJoin, []api.Expr{r.of(path, depth-1), r.of(path, depth-1)}
	case choice == 2:
		x.Op, x.Kids = api.XIf, []api.Expr{r.m.Make(sample.Sort(api.SortBool), sample.Sure, 2).Expr, r.of(path, depth-1), r.of(path, depth-1)}
	case path.Type.Lattice.Kind == api.Product:
		x.Op = api.XRec
		for i := range path.Type.Lattice.Parts {
			x.Kids = append(x.Kids, r.of(field(path, i), depth-1))
		}
	case path.Type.Lattice.Kind == api.Map:
		x.Op = api.XMap
		for range r.Intn(4) {
			key := r.m.Make(sample.Sort(api.SortName), sample.Sure, r.Intn(2)).Expr
			x.Kids = append(x.Kids, key, r.of(at(path, key), depth-1))
		}
	default:
		return r.leaf(path)
	}
	return x
}

// leaf returns the path, nearly the path, or a bottom.
func (r mirror) leaf(path api.Expr) api.Expr {
	switch r.Intn(8) {
	case 0:
		return api.Expr{Op: api.XBottom, Type: path.Type, At: r.Intn(1000)}
	case 1, 2:
		return r.m.Adding(path.Type).Expr
	case 3, 4:
		return r.moved(r.other(path))
	}
	return r.moved(path)
}

// other returns a path of the same type that differs in one field or key, if the path has one.
func (r mirror) other(path api.Expr) api.Expr {
	path.Kids = slices.Clone(path.Kids)
	switch {
	case len(path.Kids) == 0:
	case r.Intn(2) == 0:
		if of := r.other(path.Kids[0]); text(of.Type) == text(path.Kids[0].Type) {
			path.Kids[0] = of
		}
	case path.Op == api.XAt:
		path.Kids[1] = r.m.Make(sample.Sort(api.SortName), sample.Sure, r.Intn(2)).Expr
	case path.Op == api.XField:
		parts := path.Kids[0].Type.Lattice.Parts
		if i := r.Intn(len(parts)); text(parts[i]) == text(path.Type.Lattice) {
			path.N = int64(i)
		}
	}
	return path
}

// moved returns an expression with other offsets.
func (r mirror) moved(x api.Expr) api.Expr {
	x.At = r.Intn(1000)
	x.Kids = slices.Clone(x.Kids)
	for i, kid := range x.Kids {
		x.Kids[i] = r.moved(kid)
	}
	return x
}

// state returns the path of the whole state.
func state(l api.Lattice) api.Expr {
	return api.Expr{Op: api.XState, Type: sample.Of(l)}
}

// field returns the path of a field.
func field(path api.Expr, i int) api.Expr {
	return api.Expr{Op: api.XField, Type: sample.Of(path.Type.Lattice.Parts[i]), N: int64(i), Kids: []api.Expr{path}}
}

// at returns the path of the value of a key.
func at(path, key api.Expr) api.Expr {
	return api.Expr{Op: api.XAt, Type: sample.Of(path.Type.Lattice.Parts[0]), Kids: []api.Expr{path, key}}
}
