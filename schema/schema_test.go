package schema_test

import (
	"strings"
	"testing"

	"plexus/api"
	"plexus/deltas"
	"plexus/eval"
	"plexus/inflation"
	"plexus/parser"
	"plexus/printer"
	"plexus/sample"
	"plexus/schema"
	"plexus/types"
	"plexus/value"
	"plexus/variance"
)

// cart is the source of the chapter's example, with a second object.
const cart = "object o: { c: max(0, 9), a: map set }; update add(k: name, x: name) on o = s join rec(a: map(k: set(x))); update drop() on o = bottom; query count(k: name) on o: int = size(s.a[k]); lattice l = set; object other: l; update put(l: names) on other = s join set(l); query few(n: int) on other: bool = size(s) <= n; query all() on other: names = keys(s);"

// checked returns the checked program of a source.
func checked(t *testing.T, source string) api.Program {
	t.Helper()
	n, fault := parser.Parse(source)
	p, other := types.Check(n)
	if fault.Code != api.OK || other.Code != api.OK {
		t.Fatalf("%s: %v, %v", source, fault, other)
	}
	return p
}

// TestLoad covers P24.1: the loaded program, its functions and its lattices.
func TestLoad(t *testing.T) {
	for _, source := range []string{"", "# nothing\n", "lattice l = set;", "object o: set;", cart, "object b: flag; object a: max(1, 2); update z() on b = s; update y() on a = bottom; query x() on b: bool = on(s); query w(i: int) on a: int = i;"} {
		s, p := loaded(t, source), checked(t, source)
		if text(s.Program()) != text(p) {
			t.Errorf("%s: %+v, not %+v", source, s.Program(), p)
		}
		for _, o := range p.Objects {
			if l, e := s.Lattice(o.Name); e != api.OK || text(l) != text(o.Lattice) {
				t.Errorf("%s: %d, %+v", o.Name, e, l)
			}
			if _, e := s.Function(o.Name); e != api.ErrName {
				t.Errorf("the object %s is a function: %d", o.Name, e)
			}
		}
		for _, f := range functions(p) {
			if g, e := s.Function(f.Name); e != api.OK || text(g) != text(f) {
				t.Errorf("%s: %d, %+v", f.Name, e, g)
			}
			if _, e := s.Lattice(f.Name); e != api.ErrName {
				t.Errorf("the function %s is an object: %d", f.Name, e)
			}
		}
		unknown(t, s)
	}
	unknown(t, &schema.Schema{})
}

// unknown checks the errors for names of nothing.
func unknown(t *testing.T, s *schema.Schema) {
	t.Helper()
	for _, name := range []string{"", "none", "O", "k", "l", "s", "size", "a\x00", "add ", strings.Repeat("x", 1000)} {
		f, e := s.Function(name)
		l, e2 := s.Lattice(name)
		ok, e3 := s.Accepted(name)
		v, e4 := s.Update(name, nil, api.Value{})
		d, e5 := s.Query(name, nil, api.Value{})
		for i, e := range []api.Errno{e, e2, e3, e4, e5} {
			if e != api.ErrName {
				t.Errorf("%q, %d: %d", name, i, e)
			}
		}
		if ok || text(f)+text(l)+text(v)+text(d) != text(api.Function{})+text(api.Lattice{})+text(api.Value{})+text(api.Datum{}) {
			t.Errorf("%q: %+v, %+v, %v, %+v, %+v", name, f, l, ok, v, d)
		}
	}
}

// TestFaults covers the faults of Load (P24.1): that of the parser, and otherwise that of the check.
func TestFaults(t *testing.T) {
	for source, want := range map[string]api.Fault{
		"object o: set; query size() on o: int = 1;": {Code: api.ErrSyntax, At: 21}, "object o": {Code: api.ErrSyntax, At: 8}, "object O: set;": {Code: api.ErrSyntax, At: 7}, "object o: max(0, 99999999999999999);": {Code: api.ErrRange, At: 17}, "object o: set; object o: flag": {Code: api.ErrSyntax, At: 29}, "\x80": {Code: api.ErrSyntax}, strings.Repeat(" ", 65537): {Code: api.ErrLimit},
		"object o: set; object o: flag;": {Code: api.ErrName, At: 15}, "object o: l;": {Code: api.ErrName, At: 10}, "object o: max(2, 1);": {Code: api.ErrRange, At: 10}, "update u() on o = s;": {Code: api.ErrName, At: 14}, "object o: set; query q() on o: int = s;": {Code: api.ErrType, At: 37}, "object o: set; update u() on o = num(1);": {Code: api.ErrType, At: 33}, "object o: set; update u() on o = size(s, s);": {Code: api.ErrArgument, At: 33}, "object o: set; query o() on o: int = 1;": {Code: api.ErrName, At: 15}, "object o: set; update u(a: int, a: int) on o = s;": {Code: api.ErrName, At: 32},
	} {
		s, fault := schema.Load(source)
		tree, parsed := parser.Parse(source)
		_, other := types.Check(tree)
		if parsed.Code != api.OK {
			other = parsed
		}
		if s != nil || fault != other || fault.Code != want.Code || len(source) < 1000 && fault != want {
			t.Errorf("%.80s: %v, not %v", source, fault, want)
		}
	}
	many := strings.Repeat("object o: set;", 65)
	for i := range 65 {
		many = strings.Replace(many, "object o:", "object o"+string([]byte{byte('a' + i%26), byte('a' + i/26)})+":", 1)
	}
	if s, fault := schema.Load(many); s != nil || fault != (api.Fault{Code: api.ErrLimit, At: 64 * 16}) {
		t.Errorf("too many declarations: %v", fault)
	}
}

// TestAccepted covers P24.2: which functions are accepted, and that queries that are not can be carried out.
func TestAccepted(t *testing.T) {
	s := loaded(t, cart+"update same() on other = s; update cut(b: bool) on other = if b then s else bottom; update keep(x: name) on other = set(keys(s), x); update reset(n: int) on o = rec(c: num(n), a: s.a); query less() on other: int = 0 - size(s); query free(x: name) on other: bool = not x in keys(s); query three() on other: int = 3;")
	for name, want := range map[string]bool{"add": true, "drop": false, "count": true, "put": true, "few": false, "all": true, "same": true, "cut": false, "keep": true, "reset": false, "less": false, "free": false, "three": true} {
		if is, e := s.Accepted(name); e != api.OK || is != want {
			t.Errorf("%s is accepted: %v, %d", name, is, e)
		}
	}
	state := sample.Named("x", "y")
	if d, e := s.Query("less", nil, state); e != api.OK || d.N != -2 {
		t.Errorf("less: %d, %+v", e, d)
	}
	if d, e := s.Query("free", []api.Datum{name("x")}, state); e != api.OK || d.N != 0 || d.Sort != api.SortBool {
		t.Errorf("free: %d, %+v", e, d)
	}
}

// TestExamples covers P24.3: the chapter's examples, and the others of the source.
func TestExamples(t *testing.T) {
	s := loaded(t, cart)
	bottom := sample.Parts(sample.Number(0), api.Value{})
	full := sample.Parts(sample.Number(3), sample.Keyed([]string{"k"}, sample.Named("x", "y")))
	for _, c := range []struct {
		object, update string
		args           []api.Datum
		state          api.Value
		want           string
	}{
		{"o", "add", []api.Datum{name("k"), name("x")}, bottom, "(c: 0, a: {k: {x}})"}, {"o", "add", []api.Datum{name("k"), name("x")}, full, "(c: 0, a: {})"}, {"o", "add", []api.Datum{name("k"), name("z")}, full, "(c: 0, a: {k: {z}})"}, {"o", "add", []api.Datum{name("x"), name("k")}, full, "(c: 0, a: {x: {k}})"},
		{"other", "put", []api.Datum{{Sort: api.SortNames, Names: []string{"a", "b"}}}, sample.Named("b", "c"), "{a}"}, {"other", "put", []api.Datum{{Sort: api.SortNames}}, sample.Named("b"), "{}"},
	} {
		v, e := s.Update(c.update, c.args, c.state)
		l, _ := s.Lattice(c.object)
		if shown, _ := value.Text(l, v); e != api.OK || shown != c.want {
			t.Errorf("%s in %+v: %d, %s, not %s", c.update, c.state, e, shown, c.want)
		}
	}
	for _, c := range []struct {
		query string
		args  []api.Datum
		state api.Value
		want  api.Datum
	}{
		{"count", []api.Datum{name("k")}, full, number(2)}, {"count", []api.Datum{name("k")}, bottom, number(0)}, {"few", []api.Datum{number(2)}, sample.Named("a", "b"), api.Datum{Sort: api.SortBool, N: 1}}, {"few", []api.Datum{number(1)}, sample.Named("a", "b"), api.Datum{Sort: api.SortBool}}, {"all", nil, sample.Named("a", "b"), api.Datum{Sort: api.SortNames, Names: []string{"a", "b"}}},
	} {
		if d, e := s.Query(c.query, c.args, c.state); e != api.OK || text(d) != text(c.want) {
			t.Errorf("%s in %+v: %d, %+v, not %+v", c.query, c.state, e, d, c.want)
		}
	}
}

// TestErrors covers the errors of Update and Query (P24.3) in their order: each combination of names, states and arguments.
func TestErrors(t *testing.T) {
	s := loaded(t, cart+"query size-of(k: name, x: name) on o: int = size(s.a[k]) + number(s.c); update lose(k: name, x: name) on o = rec(a: s.a);")
	states := map[api.Errno][]api.Value{
		api.OK:      {sample.Parts(sample.Number(0), api.Value{}), sample.Parts(sample.Number(9), sample.Keyed([]string{"x"}, sample.Named("p")))},
		api.ErrType: {{}, sample.Parts(sample.Number(10), api.Value{}), sample.Parts(sample.Number(1)), sample.Parts(sample.Number(1), sample.Keyed([]string{"x"}, api.Value{})), sample.Named("x")},
	}
	lists := map[api.Errno][][]api.Datum{
		api.OK:          {{name("k"), name("x")}},
		api.ErrArgument: {nil, {name("k")}, {name("k"), name("x"), name("x")}},
		api.ErrType:     {{name("k"), number(1)}, {{Sort: api.SortName, Name: "k", N: 1}, name("X")}},
		api.ErrName:     {{name("K"), name("x")}, {name("k"), name("")}},
	}
	for stateError, some := range states {
		for _, state := range some {
			for listError, all := range lists {
				for _, args := range all {
					want := stateError
					if want == api.OK {
						want = listError
					}
					fails(t, s, "add", args, state, want, api.ErrName)
					fails(t, s, "size-of", args, state, api.ErrName, want)
					for _, name := range []string{"lose", "drop"} {
						fails(t, s, name, args, state, api.ErrOrder, api.ErrName)
					}
					for _, name := range []string{"", "none", "o", "l", "Add", "add2"} {
						fails(t, s, name, args, state, api.ErrName, api.ErrName)
						fails(t, &schema.Schema{}, name, args, state, api.ErrName, api.ErrName)
					}
				}
			}
		}
	}
	few := []api.Datum{number(api.MaxNumber + 1)}
	fails(t, s, "few", few, sample.Named("a"), api.ErrName, api.ErrRange)
	fails(t, s, "few", few, sample.Named("b", "a"), api.ErrName, api.ErrType)
	fails(t, s, "put", few, sample.Named("a"), api.ErrType, api.ErrName)
	fails(t, s, "put", few, sample.Parts(sample.Number(0), api.Value{}), api.ErrType, api.ErrName)
}

// fails checks the errors of Update and of Query, and that there is no result with an error.
func fails(t *testing.T, s *schema.Schema, name string, args []api.Datum, state api.Value, update, query api.Errno) {
	t.Helper()
	v, e := s.Update(name, args, state)
	if e != update || e != api.OK && text(v) != text(api.Value{}) {
		t.Errorf("Update of %s in %+v with %+v: %d, %+v, not %d", name, state, args, e, v, update)
	}
	d, e := s.Query(name, args, state)
	if e != query || e != api.OK && text(d) != text(api.Datum{}) {
		t.Errorf("Query of %s in %+v with %+v: %d, %+v, not %d", name, state, args, e, d, query)
	}
}

// TestRandom covers P24.1 to P24.3 on random programs: the lower layers give the same answers.
func TestRandom(t *testing.T) {
	counts := map[string]int{}
	programs(t, 1, 400, func(r random) {
		if text(without(r.s.Program())) != text(without(r.p)) {
			t.Fatalf("%+v, not %+v", r.s.Program(), r.p)
		}
		for _, f := range functions(r.s.Program()) {
			l := latticeOf(r.p, f.On)
			state, args := sample.Element(r.Intn, l), sample.Arguments(r.Intn, f.Params)
			accepted, _ := inflation.Check(l, f)
			if f.Result != 0 {
				accepted = variance.Monotone(f)
			}
			if is, e := r.s.Accepted(f.Name); e != api.OK || is != accepted {
				t.Fatalf("%+v is accepted: %v, %d", f, is, e)
			}
			v, e := r.s.Update(f.Name, args, state)
			d, e2 := r.s.Query(f.Name, args, state)
			want, update, query := api.Value{}, api.ErrName, api.ErrName
			result := api.Datum{}
			switch {
			case f.Result != 0:
				result, query = eval.Query(l, f, state, args)
			case accepted:
				want, update = deltas.Least(l, f, state, args)
			default:
				update = api.ErrOrder
			}
			if e != update || e2 != query || text(v) != text(want) || text(d) != text(result) {
				t.Fatalf("%+v in %+v with %+v: %d, %+v, not %d, %+v; %d, %+v, not %d, %+v", f, state, args, e, v, update, want, e2, d, query, result)
			}
			counts[text(accepted)+text(f.Result != 0)]++
		}
	})
	if len(counts) != 4 || min(counts["truetrue"], counts["truefalse"], counts["falsetrue"], counts["falsefalse"]) < 100 {
		t.Errorf("%v", counts)
	}
}

// TestSource covers P24.4: the canonical source, and the program that is loaded from it.
func TestSource(t *testing.T) {
	for source, want := range map[string]string{
		"": "", " # nothing": "", "object a:set('x','y');": "object a: set('x', 'y');\n", "lattice l=flag;\nobject  o : l ; # end": "lattice l = flag;\nobject o: l;\n", "object z: set; query q()on z:int=((size(s))+1)+(1+1); object a: set;": "object z: set;\nquery q() on z: int = size(s) + 1 + (1 + 1);\nobject a: set;\n",
	} {
		if s := loaded(t, source); s.Source() != want {
			t.Errorf("%s has the source %s, not %s", source, s.Source(), want)
		}
	}
	for _, source := range []string{cart, strings.ReplaceAll(cart, " ", "  "), strings.ReplaceAll(cart, ";", "\n ; # x\n"), strings.ReplaceAll(cart, "s join", "(s) join")} {
		s := loaded(t, source)
		n, _ := parser.Parse(source)
		if printed, e := printer.Print(n); e != api.OK || s.Source() != printed {
			t.Errorf("%s: %s, not %s", source, s.Source(), printed)
		}
		again := loaded(t, s.Source())
		if text(without(again.Program())) != text(without(s.Program())) || again.Source() != s.Source() {
			t.Errorf("%s: %s, and again %s", source, s.Source(), again.Source())
		}
	}
	if s := (&schema.Schema{}); s.Source() != "" || text(s.Program()) != text(api.Program{}) {
		t.Errorf("nothing is loaded: %s, %+v", s.Source(), s.Program())
	}
}

// TestRandomSource covers P24.4 on random programs.
func TestRandomSource(t *testing.T) {
	programs(t, 2, 200, func(r random) {
		// Line ends and signs can stand apart.
		source := strings.NewReplacer("\n", " # x\n\t", ";", " ;", " join ", "\njoin ").Replace(r.s.Source())
		s := loaded(t, source)
		if s.Source() != r.s.Source() || text(without(s.Program())) != text(without(r.p)) {
			t.Fatalf("%s, not %s", s.Source(), r.s.Source())
		}
	})
}

// TestLongSource covers P24.4 and P1 for sources that are as long as they can be. If the canonical one would be longer, there is none.
func TestLongSource(t *testing.T) {
	head := "object o:set;query q()on o:int=1"
	long := head + strings.Repeat("+1", (65536-len(head)-1)/2) + ";"
	s := loaded(t, long)
	if s.Source() != "" {
		t.Errorf("%d bytes", len(s.Source()))
	}
	if d, e := s.Query("q", nil, api.Value{}); e != api.OK || d.N != int64(strings.Count(long, "1")) {
		t.Errorf("%d, %+v", e, d)
	}
	head = "object o: set;\nupdate u() on o = s"
	long = head + strings.Repeat(" join s", (65536-len(head)-2)/7) + ";\n"
	s = loaded(t, long)
	if v, e := s.Update("u", nil, sample.Named("a")); e != api.OK || len(v.Names) != 0 || s.Source() != long {
		t.Errorf("%d, %+v, %d bytes", e, v, len(s.Source()))
	}
}
