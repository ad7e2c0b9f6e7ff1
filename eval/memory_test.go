package eval_test

import (
	"math/rand"
	"testing"

	"plexus/api"
	"plexus/eval"
	"plexus/lattice"
	"plexus/sample"
)

// lists returns the lists of names of a description, as values.
func lists(l api.Lattice) []api.Value {
	all := []api.Value{{Names: l.Names}}
	for _, r := range l.Rules {
		all = append(all, api.Value{Names: r.If})
	}
	for _, part := range l.Parts {
		all = append(all, lists(part)...)
	}
	return all
}

// TestMemory covers the rule that results share no memory with arguments or with each other.
func TestMemory(t *testing.T) {
	source := rand.New(rand.NewSource(7))
	for range 40 {
		for _, l := range sample.Objects() {
			l, _ = lattice.Decode(lattice.Encode(l)) // some of them have the same part twice
			c := call(source, l, source.Intn(4))
			all := append(lists(l), sample.Clone(c.s))
			c.s = all[len(all)-1]
			for i := range c.args {
				all = append(all, api.Value{Names: c.args[i].Names})
			}
			for range 2 {
				v, _ := eval.Update(c.l, c.f, c.s, c.args)
				d, _ := eval.Query(c.l, c.f, c.s, c.args)
				all = append(all, v, api.Value{Names: d.Names})
				for _, x := range parts(c.f.Body) {
					v, _ := eval.Value(x, c.s, c.args)
					d, _ := eval.Datum(x, c.s, c.args)
					all = append(all, v, api.Value{Names: d.Names})
				}
			}
			before := text(c.f)
			if !sample.Overwrite(all) {
				t.Fatalf("memory is shared, by the results of %s", before)
			}
		}
	}
}

// TestNothingKept covers the rule that nothing is kept from call to call: earlier results can be written over.
func TestNothingKept(t *testing.T) {
	calls(8, 10, 4, func(source *rand.Rand, c made) {
		first := c.do(t)
		before := text(c)
		v, _ := eval.Update(c.l, c.f, c.s, c.args)
		d, _ := eval.Query(c.l, c.f, c.s, c.args)
		sample.Overwrite([]api.Value{v, {Names: d.Names}})
		if c.do(t) != first || text(c) != before {
			t.Fatalf("%+v: not %s", c, first)
		}
	})
}

// TestAnyArguments covers P1: all functions terminate without a panic for arguments of all kinds, also for those for which no result is promised.
func TestAnyArguments(t *testing.T) {
	source := rand.New(rand.NewSource(9))
	codes := map[api.Errno]int{}
	objects := sample.Objects()
	for range 20000 {
		c := call(source, objects[source.Intn(len(objects))], source.Intn(4))
		x, s, args := c.f.Body, c.s, c.args
		for range source.Intn(3) {
			x = spoiled(source, x)
		}
		if source.Intn(2) == 0 {
			s = sample.AnyValue(source.Intn, 3)
		}
		for i := range args {
			if source.Intn(4) == 0 {
				args[i] = sample.AnyDatum(source.Intn)
			}
		}
		args = args[:source.Intn(len(args)+1)]
		before := text(x) + text(s) + text(args)
		for _, part := range parts(x) {
			d, e := eval.Datum(part, s, args)
			v, f := eval.Value(part, s, args)
			if e != api.OK && text(d) != text(api.Datum{}) || f != api.OK && text(v) != text(api.Value{}) {
				t.Fatalf("%+v in %v with %v: %d, %v, %d, %v", part, s, args, e, d, f, v)
			}
			codes[max(e, f)]++
			codes[min(e, f)]++
			eval.Reads(part)
		}
		eval.Arguments(c.f.Params, args)
		c.f.Body = x
		eval.Update(c.l, c.f, s, args)
		eval.Query(c.l, c.f, s, args)
		if text(x)+text(s)+text(args) != before {
			t.Fatalf("%s has changed", before)
		}
	}
	if codes[api.OK] < 10000 || codes[api.ErrArgument] < 1000 {
		t.Errorf("%v", codes)
	}
}

// TestDeep covers P1: expressions with as many levels as the document allows.
func TestDeep(t *testing.T) {
	l := api.Lattice{Kind: api.Set}
	state, bottom := api.Expr{Op: api.XState, Type: sample.Of(l)}, api.Expr{Op: api.XBottom, Type: sample.Of(l)}
	yes, one := api.Expr{Op: api.XBool, Type: sample.Sort(api.SortBool), N: 1}, api.Expr{Op: api.XInt, Type: sample.Sort(api.SortInt), N: 1}
	node := func(op int, t api.Type, kids ...api.Expr) api.Expr { return api.Expr{Op: op, Type: t, Kids: kids} }
	left, right, choice, not, sum, set := state, state, state, yes, one, state
	const levels = 65000
	for range levels {
		left, right = node(api.XJoin, left.Type, left, bottom), node(api.XJoin, left.Type, bottom, right)
		choice = node(api.XIf, choice.Type, yes, choice, bottom)
		not, sum = node(api.XNot, not.Type, not), node(api.XPlus, sum.Type, sum, one)
	}
	for range levels / 3 {
		set = node(api.XSet, set.Type, node(api.XKeys, sample.Sort(api.SortNames), node(api.XJoin, set.Type, state, set)))
	}
	s := sample.Named("a", "b")
	for i, x := range []api.Expr{left, right, choice, set} {
		f := api.Function{Name: "f", On: "o", Body: x}
		if v, e := eval.Update(l, f, s, nil); e != api.OK || text(v) != text(s) || !eval.Reads(x) {
			t.Errorf("case %d: %d, %v", i, e, v)
		}
	}
	for i, x := range []api.Expr{not, sum} {
		f := api.Function{Name: "f", On: "o", Result: x.Type.Sort, Body: x}
		if d, e := eval.Query(l, f, s, nil); e != api.OK || d.N != []int64{1, levels + 1}[i] || eval.Reads(x) {
			t.Errorf("data %d: %d, %v", i, e, d)
		}
	}
}

// TestManyKids covers P1: sets and maps with many parts.
func TestManyKids(t *testing.T) {
	l := sample.MapOf(api.Lattice{Kind: api.Set})
	list := api.Expr{Op: api.XSet, Type: sample.Of(l.Parts[0])}
	entries := api.Expr{Op: api.XMap, Type: sample.Of(l)}
	const count = 100000
	for i := range count {
		word := api.Expr{Op: api.XName, Type: sample.Sort(api.SortName), Text: "n" + string([]byte{byte('a' + i%26), byte('a' + i/26%26), byte('a' + i/676%26), byte('a' + i/17576)})}
		list.Kids = append(list.Kids, word)
		entries.Kids = append(entries.Kids, api.Expr{Op: api.XName, Type: word.Type, Text: []string{"x", "y"}[i%2]}, api.Expr{Op: api.XSet, Type: list.Type, Kids: []api.Expr{word}})
	}
	v, e := eval.Value(list, api.Value{}, nil)
	if e != api.OK || len(v.Names) != count {
		t.Errorf("%d, %d names", e, len(v.Names))
	}
	v, e = eval.Update(l, api.Function{Name: "f", On: "o", Body: entries}, api.Value{}, nil)
	if e != api.OK || len(v.Names) != 2 || len(v.Parts[0].Names)+len(v.Parts[1].Names) != count {
		t.Errorf("%d, %d keys", e, len(v.Names))
	}
}
