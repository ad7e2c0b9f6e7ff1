package types_test

import (
	"math/rand"
	"slices"
	"strconv"
	"strings"
	"testing"

	"plexus/api"
	"plexus/sample"
	"plexus/types"
)

// TestDeclarations covers P18.1: programs without faults.
func TestDeclarations(t *testing.T) {
	flag, set := api.Lattice{Kind: api.Flag}, api.Lattice{Kind: api.Set}
	for _, c := range []struct {
		source string
		want   api.Program
	}{
		{"", api.Program{}}, {"lattice l = flag;", api.Program{}},
		{"object o: set;", api.Program{Objects: []api.Object{{Name: "o", Lattice: set}}}},
		{"object o: set; lattice l = flag; object b: map l; lattice m = map('z', 'y') l; object n: lex(l, m);", api.Program{Objects: []api.Object{{Name: "b", Lattice: sample.MapOf(flag)}, {Name: "n", Lattice: sample.Lex(flag, sample.MapOf(flag, "y", "z"))}, {Name: "o", Lattice: set}}}},
		{"object o: set; query z(l: names, o: int) on o: int = o; update y() on o = s; query b() on o: names = keys(s); update a(z: name) on o = set(z);", api.Program{
			Objects: []api.Object{{Name: "o", Lattice: set}},
			Updates: []api.Function{
				{Name: "a", On: "o", Params: []api.Param{{Name: "z", Sort: api.SortName}}, Body: api.Expr{Op: api.XSet, Type: of(set), At: 135, Kids: []api.Expr{{Op: api.XParam, Type: name, At: 139}}}},
				{Name: "y", On: "o", Body: api.Expr{Op: api.XState, Type: of(set), At: 74}},
			},
			Queries: []api.Function{
				{Name: "b", On: "o", Result: api.SortNames, Body: api.Expr{Op: api.XKeys, Type: names, At: 101, Kids: []api.Expr{{Op: api.XState, Type: of(set), At: 106}}}},
				{Name: "z", On: "o", Params: []api.Param{{Name: "l", Sort: api.SortNames}, {Name: "o", Sort: api.SortInt}}, Result: api.SortInt, Body: api.Expr{Op: api.XParam, Type: number, N: 1, At: 53}},
			},
		}},
	} {
		n := program(t, c.source)
		before := text(n)
		p, fault := types.Check(n)
		if fault != (api.Fault{}) || text(p) != text(c.want) || text(n) != before || !types.Program(p) {
			t.Errorf("%s: %v, %v", c.source, fault, p)
		}
	}
}

// TestDeclarationFaults covers P18.1 for the faults of declarations, which are where ! stands.
func TestDeclarationFaults(t *testing.T) {
	nine := "a: int, b: bool, c: name, d: names, e: int, f: int, g: int, h: int, !i: int"
	for code, sources := range map[api.Errno][]string{
		api.ErrName: {
			"lattice a = flag; !lattice a = flag;", "lattice a = flag; !object a: b;", "object a: flag; !lattice a = b;", "object a: flag; !object a: flag;", "object a: flag; !update a(x: int, x: int) on b = 1;", "object a: flag; !query a() on a: bool = true;", "object o: flag; update u() on o = s; !query u() on o: bool = 1;", "object o: flag; update u() on o = s; !update u() on o = s;", "object o: flag; query q() on o: int = 1; !lattice q = x;", "object o: flag; query q() on o: int = 1; !object q: flag;",
			"lattice a = !b;", "lattice a = !a;", "object a: !a;", "object a: flag; object b: !a;", "object a: flag; lattice b = map !a;", "object a: map !l; lattice l = flag;", "lattice a = set('x', !'x'); lattice a = b;", "object o: flag; update u() on o = s; object p: !u;",
			"update u() on !o = s;", "lattice o = flag; update u() on !o = s;", "update u() on !o = s; object o: flag;", "object o: flag; query q() on !p: int = x;", "object o: flag; query q() on !q: int = x;", "object o: flag; update u(x: int) on o = s; query q() on !u: int = 1;",
			"object o: flag; update u(x: int, !x: bool) on o = s;", "object o: flag; update u(x: int, y: int, z: int, !y: int) on p = s;", "object o: flag; query q(x: int, !x: int, x: int) on o: int = y;", "object o: flag; update u(x: int, !x: int, c: int, d: int, e: int, f: int, g: int, h: int, i: int) on o = s;",
			"object o: flag; update u(x: int) on o = s; query q() on o: int = !x;", "object o: flag; update u() on o = !o;", "object o: flag; lattice l = flag; update u() on o = !l;",
		},
		api.ErrLimit:    {"object o: flag; update u(" + nine + ") on o = s;", "object o: flag; query q(" + nine + ") on p: int = true;", "object o: flag; update u(" + strings.Replace(nine, "i: int", "a: int", 1) + ") on o = s;", "object o: flag; update u(" + nine + ", a: int) on o = s;", "object o: !map map map map map map set;"},
		api.ErrType:     {"object o: flag; update u() on o = !1;", "object o: flag; query q() on o: int = !s;", "lattice l = !lex(set, flag);", "object o: flag; object p: set; update u() on p = !flag(true);", "object o: flag; object p: set; update u() on o = !set();"},
		api.ErrRange:    {"lattice l = !max(1, 0); lattice l = x;", "lattice k = flag; object o: !map min(1, 0);"},
		api.ErrArgument: {"object o: !closed();", "object o: flag; query q() on o: int = !size();"},
	} {
		for _, source := range sources {
			fails(t, source, code)
		}
	}
	p := checked(t, "object o: flag; update u("+strings.Split(nine, ", !")[0]+") on o = s;")
	if len(p.Updates[0].Params) != types.MaxParams {
		t.Errorf("%v", p.Updates[0])
	}
}

// TestManyDeclarations covers P18.1 and P18.4: 64 declarations of all kinds, and one more.
func TestManyDeclarations(t *testing.T) {
	for _, kinds := range []int{1, 2, 3, 4} {
		source := "object o: flag;"
		for i := 1; i < types.MaxDeclarations; i++ {
			name := "n" + strconv.Itoa(i)
			source += []string{"object " + name + ": flag;", "lattice " + name + " = flag;", "update " + name + "() on o = s;", "query " + name + "() on o: int = 1;"}[i%kinds]
		}
		checked(t, source)
		for _, more := range []string{"lattice z = flag;", "object z: flag;", "update z() on o = s;", "query z() on o: int = 1;", "lattice o = x;", "update z() on x = 1;", "object z: flag; object z: flag;"} {
			fails(t, source+"!"+more, api.ErrLimit)
		}
		fails(t, strings.Replace(source, "flag", "!l", 1)+"object z: flag;", api.ErrName)
	}
}

// TestAnyNames covers P18.1: names that are keywords are like all others, and offsets may be any numbers.
func TestAnyNames(t *testing.T) {
	n := program(t, "lattice n1 = flag; object n2: { n3: n1, n4: map set }; update n5(n6: name, n7: names) on n2 = rec(n4: map(n6: set(n7)), n3: s.n3); query n8(n6: int) on n2: int = n6;")
	words := []string{"s", "if", "set", "map", "rec", "lattice", "bottom", "true"}
	var rename func(n api.Node) api.Node
	rename = func(n api.Node) api.Node {
		if i, err := strconv.Atoi(strings.TrimPrefix(n.Text, "n")); err == nil {
			n.Text = words[i-1]
		}
		kids := n.Kids
		n.At, n.Kids = -n.At, nil
		for _, kid := range kids {
			n.Kids = append(n.Kids, rename(kid))
		}
		return n
	}
	p, fault := types.Check(rename(n))
	if fault != (api.Fault{}) || !types.Program(p) || p.Objects[0].Name != "if" || p.Updates[0].Name != "rec" || short(p.Updates[0].Body) != "rec(field(state) map(param set(param1)))" || p.Updates[0].Body.At >= 0 || p.Queries[0].Name != "true" {
		t.Fatalf("%v, %v", p, fault)
	}
	tree, e := types.Tree(p)
	if e != api.OK {
		t.Fatalf("%d", e)
	}
	if again, fault := types.Check(tree); fault != (api.Fault{}) || text(again) != text(p) {
		t.Errorf("%v, %v", again, fault)
	}
}

// declarations makes a random program without faults, with its checked form. Lattices are declared for some of the descriptions.
func declarations(source *rand.Rand) (api.Node, api.Program) {
	all := sample.Objects()
	n := api.Node{Kind: api.NodeProgram}
	var p api.Program
	order := source.Perm(26)
	fresh := func() string {
		i := order[0]
		order = order[1:]
		return string(rune('a' + i))
	}
	for range 1 + source.Intn(4) {
		l := all[source.Intn(len(all))]
		tree := treeOf(l, source)
		if source.Intn(2) == 0 {
			word := fresh()
			n.Kids = append(n.Kids, api.Node{Kind: api.NodeLattice, Text: word, Kids: []api.Node{tree}})
			tree = api.Node{Kind: api.NodeNamed, Text: word}
		}
		o := api.Object{Name: fresh(), Lattice: l}
		p.Objects = append(p.Objects, o)
		n.Kids = append(n.Kids, api.Node{Kind: api.NodeObject, Text: o.Name, Kids: []api.Node{tree}})
		for range source.Intn(4) {
			on := p.Objects[source.Intn(len(p.Objects))]
			m := sample.NewMaker(source.Intn, on.Lattice)
			f := api.Function{Name: fresh(), On: on.Name, Params: m.Params, Result: source.Intn(5)}
			want, kind := of(on.Lattice), api.NodeUpdate
			if f.Result > 0 {
				want, kind = api.Type{Sort: f.Result}, api.NodeQuery
			}
			x := m.Make(want, sample.Sure, source.Intn(4))
			f.Body = x.Expr
			d := api.Node{Kind: kind, Text: f.Name, N: int64(f.Result)}
			for _, param := range f.Params {
				d.Kids = append(d.Kids, api.Node{Kind: api.NodeParam, Text: param.Name, N: int64(param.Sort)})
			}
			d.Kids = append(d.Kids, api.Node{Kind: api.NodeName, Text: on.Name}, x.Tree)
			n.Kids = append(n.Kids, d)
			if f.Result > 0 {
				p.Queries = append(p.Queries, f)
			} else {
				p.Updates = append(p.Updates, f)
			}
		}
	}
	slices.SortFunc(p.Objects, func(a, b api.Object) int { return strings.Compare(a.Name, b.Name) })
	slices.SortFunc(p.Updates, func(f, g api.Function) int { return strings.Compare(f.Name, g.Name) })
	slices.SortFunc(p.Queries, func(f, g api.Function) int { return strings.Compare(f.Name, g.Name) })
	return n, p
}

// TestMadePrograms covers P18.1, P18.4, P18.5 and P18.6: random programs, what Check returns for them, and their trees.
func TestMadePrograms(t *testing.T) {
	source := rand.New(rand.NewSource(8))
	for range 400 {
		n, want := declarations(source)
		p, fault := types.Check(n)
		if fault != (api.Fault{}) || text(p) != text(want) {
			t.Fatalf("%v: %v, %v", n, fault, p)
		}
		if !types.Program(p) {
			t.Fatalf("%v is no program", p)
		}
		before := text(p)
		tree, e := types.Tree(p)
		if e != api.OK || text(p) != before {
			t.Fatalf("%v: %d", p, e)
		}
		if again, fault := types.Check(tree); fault != (api.Fault{}) || text(again) != text(p) {
			t.Fatalf("%v: %v, %v", tree, fault, again)
		}
	}
}
