package value

import (
	"bytes"
	"math"
	"math/rand"
	"reflect"
	"slices"
	"strconv"
	"strings"
	"testing"

	"plexus/api"
	"plexus/sample"
)

// invalid are descriptions that are not valid.
var invalid = sample.Invalid()

// TestValidForms covers P10.1 for all small values and finite lattices.
func TestValidForms(t *testing.T) {
	values := candidates()
	for _, l := range finite() {
		all := elements(l)
		found := 0
		for _, v := range values {
			want := slices.ContainsFunc(all, func(e api.Value) bool { return same(e, v) })
			if Valid(l, v) != want {
				t.Errorf("Valid(%v, %v) is not %t", l, v, want)
			}
			if want {
				found++
			}
		}
		for _, v := range all {
			if !Valid(l, v) {
				t.Errorf("%v is no element of %v", v, l)
			}
			for _, change := range []func(v *api.Value){
				func(v *api.Value) { v.N += 7 },
				func(v *api.Value) { v.Names = append(slices.Clone(v.Names), "zz") },
				func(v *api.Value) { v.Parts = append(slices.Clone(v.Parts), api.Value{}) },
				func(v *api.Value) { v.Entries = []api.Entry{entry("a", 1, 1)} },
			} {
				w := v
				change(&w)
				if Valid(l, w) {
					t.Errorf("%v is an element of %v", w, l)
				}
			}
		}
		if found == 0 {
			t.Errorf("no small value is an element of %v", l)
		}
	}
}

// TestValid covers P10.1 for ordinary values and the edges of the conditions.
func TestValid(t *testing.T) {
	long := "abcdefghijklmnop"
	for i, c := range []struct {
		l    api.Lattice
		v    api.Value
		want bool
	}{
		// The examples.
		{note, parts(number(3), named("x", "y")), true}, {mapOf(five), keyed([]string{"k"}, number(5)), true}, {mapOf(five), keyed([]string{"k"}, number(0)), false},
		{register, written(entry("x", 1, 2)), true}, {register, written(entry("a", 1, 1), entry("b", 1, 2)), false}, {register, written(entry("a", 1, 1), entry("a", 2, 1)), true},
		// Numbers.
		{flag, number(math.MaxInt64), false}, {flag, number(math.MinInt64), false}, {bounds(api.Max, -1e9, 1e9), number(-1e9), true}, {bounds(api.Min, -1e9, 1e9), number(1e9), true}, {bounds(api.Min, -1e9, 1e9), number(1e9 + 1), false}, {bounds(api.Max, -1e9, 1e9), number(-1e9 - 1), false},
		// Names, of which any are allowed.
		{set, named(), true}, {set, named("a", long, "b"), true}, {set, named("a", "a-", "a0", "aa"), true}, {set, named("b", "a"), false}, {set, named("a", "a"), false}, {set, named(""), false}, {set, named("a", "B"), false}, {set, named(long + "q"), false}, {set, named("a\xff"), false},
		{flat, atom("q"), true}, {flat, atom(long), true}, {flat, atom(long + "q"), false}, {flat, atom(""), false}, {flat, atom("Q"), false}, {flat, number(1), false}, {flat, number(2), true}, {flat, number(3), false}, {flat, number(-1), false}, {flat, named("a"), false}, {flat, api.Value{N: 2, Names: []string{"a"}}, false}, {flat, api.Value{N: 1, Names: []string{"a", "b"}}, false},
		// Maps without allowed names, and of other bottoms.
		{mapOf(five), keyed([]string{"a", "b"}, number(1), number(2)), true}, {mapOf(five), keyed([]string{"b", "a"}, number(1), number(2)), false}, {mapOf(five), keyed([]string{"a", "a"}, number(1), number(2)), false}, {mapOf(five), keyed([]string{"A"}, number(1)), false}, {mapOf(five), keyed([]string{"a"}, number(6)), false}, {mapOf(five), keyed([]string{"a"}, number(1), number(2)), false}, {mapOf(five), keyed(nil, number(1)), false},
		{mapOf(bounds(api.Min, -3, 7)), keyed([]string{"a"}, number(7)), false}, {mapOf(bounds(api.Min, -3, 7)), keyed([]string{"a"}, number(0)), true}, {mapOf(note), keyed([]string{"a"}, parts(number(0), named())), false}, {mapOf(note), keyed([]string{"a"}, parts(number(0), named("a"))), true}, {mapOf(set), keyed([]string{"a"}, named()), false}, {mapOf(register), keyed([]string{"a"}, written()), false}, {mapOf(register), keyed([]string{"a"}, written(entry("x", 0, 1))), true}, {mapOf(mapOf(flag)), keyed([]string{"a"}, keyed([]string{"b"}, number(1))), true}, {mapOf(mapOf(flag)), keyed([]string{"a"}, keyed(nil)), false}, {mapOf(mapOf(flag)), keyed([]string{"a"}, keyed([]string{"b"}, number(0))), false},
		// Entries.
		{register, written(), true}, {register, written(entry("x", 0, 1e15, 63, 1)), true}, {register, written(entry("x", 0, 1e15+1)), false}, {register, written(entry("x", 64, 1)), false}, {register, written(entry("x", -1, 1)), false}, {register, written(entry("", 1, 1)), false}, {register, written(entry("X", 1, 1)), false}, {register, written(entry(long+"q", 1, 1)), false}, {register, written(entry("a", 1, 1), entry("b", 1, 1)), true}, {register, written(entry("a", 1, 1, 2, 1), entry("b", 2, 1)), false}, {register, written(entry("a", 1, 9), entry("a", 1, 1, 2, 1)), false}, {register, written(entry("a", 1, 1, 2, 2), entry("a", 1, 2), entry("b", 1, 1, 3, 1), entry("c", 4, 1)), true}, {register, written(entry("a", 1, 1, 2, 2), entry("b", 1, 2), entry("c", 2, 1)), false}, {register, api.Value{Names: []string{"a"}, Entries: []api.Entry{entry("a", 1, 1)}}, false},
		// Parts.
		{note, parts(), false}, {note, parts(number(3)), false}, {note, parts(number(3), named(), number(0)), false}, {note, parts(named("x"), number(3)), false}, {note, api.Value{Names: []string{"c", "a"}, Parts: []api.Value{{}, {}}}, false}, {lex(five, set), parts(number(6), named()), false}, {lex(five, set), parts(number(5), named("b")), true}, {lex(five, set), parts(number(5)), false},
	} {
		if Valid(c.l, c.v) != c.want {
			t.Errorf("case %d: Valid(%v, %v) is not %t", i, c.l, c.v, c.want)
		}
	}
	for _, l := range invalid {
		for _, v := range []api.Value{{}, number(1), number(3), named("a"), named("b"), parts(number(0)), parts(number(0), number(0)), parts(named(), number(0)), atom("a")} {
			if Valid(l, v) {
				t.Errorf("Valid(%v, %v)", l, v)
			}
		}
	}
}

// TestValidRegisters covers P10.1 for all short lists of some entries.
func TestValidRegisters(t *testing.T) {
	count := 0
	for _, list := range registers() {
		want := isRegister(list)
		if Valid(register, written(list...)) != want {
			t.Fatalf("%v: not %t", list, want)
		}
		if want {
			count++
		}
	}
	if count < 50 {
		t.Errorf("only %d registers", count)
	}
}

// TestBoundsOfFinite covers P10.2: the least and the greatest of all elements.
func TestBoundsOfFinite(t *testing.T) {
	for _, l := range finite() {
		table := sample.NewTable(l)
		all, lowest := table.All, least(l)
		greatest := all[table.Lower()]
		if v, e := Bottom(l); e != api.OK || !same(v, lowest) || !Valid(l, v) {
			t.Errorf("Bottom(%v): %v, %d", l, v, e)
		}
		if v, e := Top(l); e != api.OK || !same(v, greatest) || !Valid(l, v) {
			t.Errorf("Top(%v): %v, %d instead of %v", l, v, e, greatest)
		}
		for _, v := range append(all, candidates()...) {
			if IsBottom(l, v) != same(v, lowest) {
				t.Errorf("IsBottom(%v, %v): %t", l, v, IsBottom(l, v))
			}
		}
	}
}

// TestBounds covers P10.2, and its errors.
func TestBounds(t *testing.T) {
	pair := parts(number(0), named())
	for i, c := range []struct {
		l           api.Lattice
		bottom, top api.Value
		e           api.Errno
	}{
		// The example 2.
		{mapOf(five), keyed(nil), api.Value{}, api.ErrNone}, {mapOf(five, "k"), keyed(nil), keyed([]string{"k"}, number(5)), api.OK},
		{flag, number(0), number(1), api.OK}, {bounds(api.Max, -2, 8), number(-2), number(8), api.OK}, {bounds(api.Min, -2, 8), number(8), number(-2), api.OK}, {set, named(), api.Value{}, api.ErrNone}, {flat, number(0), number(2), api.OK}, {register, written(), api.Value{}, api.ErrNone},
		// Maps of trivial lattices have the empty map only, whatever the names are.
		{mapOf(single), keyed(nil), keyed(nil), api.OK}, {mapOf(mapOf(single)), keyed(nil), keyed(nil), api.OK}, {mapOf(product(single, bounds(api.Min, 3, 3))), keyed(nil), keyed(nil), api.OK}, {mapOf(lex(single, mapOf(single))), keyed(nil), keyed(nil), api.OK}, {mapOf(product(single, flag)), keyed(nil), api.Value{}, api.ErrNone}, {mapOf(lex(single, flag)), keyed(nil), api.Value{}, api.ErrNone}, {mapOf(mapOf(flag)), keyed(nil), api.Value{}, api.ErrNone}, {mapOf(mapOf(single, "a"), "b"), keyed(nil), keyed(nil), api.OK},
		{mapOf(set, "k"), keyed(nil), api.Value{}, api.ErrNone}, {mapOf(register, "k"), keyed(nil), api.Value{}, api.ErrNone}, {mapOf(flat, "j", "k"), keyed(nil), keyed([]string{"j", "k"}, number(2), number(2)), api.OK},
		// Parts without a greatest element.
		{note, pair, api.Value{}, api.ErrNone}, {product(set, flag), parts(named(), number(0)), api.Value{}, api.ErrNone}, {lex(five, set), pair, api.Value{}, api.ErrNone}, {lex(five, flat), parts(number(0), number(0)), parts(number(5), number(2)), api.OK}, {product(flag, mapOf(single), flat), parts(number(0), keyed(nil), number(0)), parts(number(1), keyed(nil), number(2)), api.OK}, {mapOf(note, "k"), keyed(nil), api.Value{}, api.ErrNone},
	} {
		if v, e := Bottom(c.l); e != api.OK || !same(v, c.bottom) || !IsBottom(c.l, v) {
			t.Errorf("case %d: Bottom: %v, %d", i, v, e)
		}
		if v, e := Top(c.l); e != c.e || !same(v, c.top) {
			t.Errorf("case %d: Top: %v, %d", i, v, e)
		}
	}
	for _, c := range []struct {
		l api.Lattice
		v api.Value
	}{{set, named("a")}, {register, written(entry("a", 1, 1))}, {note, parts(number(0))}, {note, parts(number(0), named("a"))}, {note, parts(number(1), named())}, {flat, named("a")}, {mapOf(five), keyed([]string{"k"}, number(0))}, {flag, named("a")}, {flag, parts(number(0))}, {set, number(1)}, {flag, written(api.Entry{})}} {
		if IsBottom(c.l, c.v) {
			t.Errorf("IsBottom(%v, %v)", c.l, c.v)
		}
	}
	for _, l := range invalid {
		v, e1 := Bottom(l)
		w, e2 := Top(l)
		if e1 != api.ErrArgument || e2 != api.ErrArgument || !reflect.DeepEqual(v, api.Value{}) || !reflect.DeepEqual(w, api.Value{}) || IsBottom(l, api.Value{}) || IsBottom(l, parts(number(0))) || IsBottom(l, number(3)) || IsBottom(l, number(1)) {
			t.Errorf("the bounds of %v: %v, %d, %v, %d", l, v, e1, w, e2)
		}
	}
}

// TestCompare covers P10.3: a list of values in increasing order.
func TestCompare(t *testing.T) {
	list := []api.Value{
		number(math.MinInt64), number(-1), {N: -1, Names: []string{"z"}},
		{}, written(api.Entry{}), written(api.Entry{}, api.Entry{}), written(entry("", -1, 5)), written(entry("", 0, -1)), written(entry("", 0, 0)), written(entry("", 0, 0, 0, 0)), written(entry("", 0, 1)), written(entry("", 0, 1), api.Entry{}), written(entry("", 0, 1, 1, 1)), written(entry("", 0, 2)), written(entry("", 1, 1)), written(entry("a")), written(entry("a", 1, 1)), written(entry("a", 1, 1), entry("b", 1, 1)), written(entry("aa")), written(entry("b")), written(entry("\xff")),
		parts(number(-1)), parts(number(-1), number(5)), parts(api.Value{}), {Parts: []api.Value{{}}, Entries: []api.Entry{{}}}, parts(api.Value{}, api.Value{}), parts(written(api.Entry{})), parts(parts(number(0))), parts(named("")), parts(number(1)), parts(number(2)),
		named(""), {Names: []string{""}, Parts: []api.Value{{}}}, named("", ""), named("", "a"), named("B"), named("a"), named("a", "a"), named("a", "b"), named("a-"), named("aa"), named("b"), named("b", "a"), named("\xff"),
		number(1), {N: 1, Entries: []api.Entry{{}}}, {N: 1, Parts: []api.Value{{}}}, atom("a"), number(2), number(math.MaxInt64),
	}
	for i, a := range list {
		for k, b := range list {
			want := 0
			if i < k {
				want = -1
			} else if i > k {
				want = 1
			}
			if Compare(a, b) != want || Equal(a, b) != (want == 0) {
				t.Errorf("Compare(%v, %v): %d, %t", a, b, Compare(a, b), Equal(a, b))
			}
			if Compare(parts(a, number(3)), parts(b, number(2))) != cmpOr(want, 1) || Equal(parts(a), parts(b)) != (want == 0) {
				t.Errorf("Compare of parts %v, %v", a, b)
			}
		}
	}
	empty := api.Value{Names: []string{}, Parts: []api.Value{}, Entries: []api.Entry{}}
	if Compare(empty, api.Value{}) != 0 || !Equal(api.Value{}, empty) || !Equal(parts(empty), parts(api.Value{})) || !Equal(written(api.Entry{Clock: []api.Tick{}}), written(api.Entry{})) {
		t.Error("empty slices and nil are not the same")
	}
}

// cmpOr returns a, or b if a is 0.
func cmpOr(a, b int) int {
	if a != 0 {
		return a
	}
	return b
}

// randomValue returns any value.
func randomValue(source *rand.Rand, depth int) api.Value {
	v := api.Value{N: int64(source.Intn(2))}
	for range source.Intn(3) {
		v.Names = append(v.Names, []string{"", "a", "b"}[source.Intn(3)])
	}
	for range source.Intn(2) {
		v.Entries = append(v.Entries, entry([]string{"a", "b"}[source.Intn(2)], []int64{1, int64(source.Intn(2)), 2, 1}[:2*source.Intn(3)]...))
	}
	if depth > 1 {
		for range source.Intn(3) {
			v.Parts = append(v.Parts, randomValue(source, depth-1))
		}
	}
	return v
}

// TestCompareAtRandom covers P10.3: a total order, which is 0 exactly for equal values.
func TestCompareAtRandom(t *testing.T) {
	source := rand.New(rand.NewSource(1))
	equal := 0
	for range 100000 {
		a, b, c := randomValue(source, 2), randomValue(source, 2), randomValue(source, 2)
		if same(a, b) {
			equal++
		}
		if (Compare(a, b) == 0) != same(a, b) || Equal(a, b) != same(a, b) || Compare(a, b) != -Compare(b, a) || max(Compare(a, b), -Compare(a, b)) > 1 {
			t.Fatalf("Compare(%v, %v): %d, %t", a, b, Compare(a, b), Equal(a, b))
		}
		if Compare(a, b) <= 0 && Compare(b, c) <= 0 && Compare(a, c) > 0 {
			t.Fatalf("Compare is not transitive: %v, %v, %v", a, b, c)
		}
	}
	if equal < 100 {
		t.Errorf("only %d pairs of equal values", equal)
	}
}

// TestNodes covers P10.4.
func TestNodes(t *testing.T) {
	for i, c := range []struct {
		v    api.Value
		want int
	}{
		{api.Value{}, 1}, {number(9), 1}, {parts(number(3), named("x", "y")), 5}, {named("a", "a", ""), 4}, {parts(api.Value{}), 2}, {parts(parts(parts())), 3}, {keyed([]string{"k"}, number(5)), 3}, {keyed([]string{"k", "l"}, keyed([]string{"m"}, number(1)), named()), 7},
		{written(api.Entry{}), 2}, {written(entry("a", 1, 1)), 3}, {written(entry("a", 1, 1, 2, 2), entry("b", 3, 1)), 6}, {api.Value{N: 1, Names: []string{"a"}, Parts: []api.Value{{}, {}}, Entries: []api.Entry{entry("a", 1, 1)}}, 6},
	} {
		if n := Nodes(c.v); n != c.want {
			t.Errorf("case %d: %d", i, n)
		}
	}
}

// forms are elements with their encodings and texts.
var forms = []struct {
	l          api.Lattice
	v          api.Value
	code, text string
}{
	// The examples.
	{note, parts(number(3), named("x", "y")), "\x06\x02\x01x\x01y", "(c: 3, a: {x,y})"}, {register, written(entry("x", 1, 2)), "\x01\x01\x01\x02\x01x", "[x@1:2]"}, {flat, number(0), "\x00", "?"}, {flat, number(2), "\x02", "!"}, {flat, atom("n-1"), "\x01\x03n-1", "n-1"},
	{flag, number(0), "\x00", "false"}, {flag, number(1), "\x01", "true"}, {bounds(api.Max, -1e9, 1e9), number(-1e9), "\xff\xa7\xd6\xb9\x07", "-1000000000"}, {bounds(api.Max, -1e9, 1e9), number(1e9), "\x80\xa8\xd6\xb9\x07", "1000000000"}, {bounds(api.Min, -5, 5), number(-1), "\x01", "-1"}, {bounds(api.Min, -5, 5), number(0), "\x00", "0"}, {bounds(api.Min, 0, 100), number(64), "\x80\x01", "64"},
	{set, named(), "\x00", "{}"}, {set, named("a"), "\x01\x01a", "{a}"}, {set, named("a", "b-1", "cc"), "\x03\x01a\x03b-1\x02cc", "{a,b-1,cc}"}, {closed([]string{"a", "b"}), named("a", "b"), "\x02\x01a\x01b", "{a,b}"}, {closed([]string{"a", "b"}), named(), "\x00", "{}"},
	{mapOf(five), keyed(nil), "\x00", "{}"}, {mapOf(five), keyed([]string{"k"}, number(5)), "\x01\x01k\x0a", "{k: 5}"}, {mapOf(note, "k", "l"), keyed([]string{"k", "l"}, parts(number(0), named("x")), parts(number(1), named())), "\x02\x01k\x00\x01\x01x\x01l\x02\x00", "{k: (c: 0, a: {x}), l: (c: 1, a: {})}"}, {mapOf(register), keyed([]string{"k"}, written(entry("x", 1, 2))), "\x01\x01k\x01\x01\x01\x02\x01x", "{k: [x@1:2]}"},
	{product(flat), parts(atom("q")), "\x01\x01q", "(z: q)"}, {product(flag, flag, mapOf(flag)), parts(number(1), number(0), keyed(nil)), "\x01\x00\x00", "(z: true, y: false, x: {})"}, {lex(flag, set), parts(number(1), named()), "\x01\x00", "<true, {}>"}, {lex(lex(five, flag), flat), parts(parts(number(2), number(1)), number(0)), "\x04\x01\x00", "<<2, true>, ?>"},
	{register, written(), "\x00", "[]"}, {register, written(entry("a", 0, 1, 2, 3), entry("b", 1, 1)), "\x02\x02\x00\x01\x02\x03\x01a\x01\x01\x01\x01b", "[a@0:1.2:3 | b@1:1]"}, {register, written(entry("a", 63, 1e15)), "\x01\x01\x3f\x80\x80\x9a\xa6\xea\xaf\xe3\x01\x01a", "[a@63:1000000000000000]"},
}

// TestForms covers P10.5 and P10.6: the encoding and the text of elements of each kind.
func TestForms(t *testing.T) {
	for i, c := range forms {
		if b, e := Encode(c.l, c.v); e != api.OK || string(b) != c.code {
			t.Errorf("case %d: Encode: %q, %d", i, b, e)
		}
		if v, e := Decode(c.l, []byte(c.code)); e != api.OK || !same(v, c.v) {
			t.Errorf("case %d: Decode: %v, %d", i, v, e)
		}
		if s, e := Text(c.l, c.v); e != api.OK || s != c.text {
			t.Errorf("case %d: Text: %q, %d", i, s, e)
		}
	}
}

// TestCodeOfFinite covers P10.5 and P10.6 for all elements of finite lattices: Decode accepts exactly their encodings, none of which is a prefix of another one, and the texts differ.
func TestCodeOfFinite(t *testing.T) {
	const alphabet = "\x00\x01\x02\x03\x04ab\x80"
	var short []string
	for _, b := range sample.Lists([]byte(alphabet), 5) {
		short = append(short, string(b))
	}
	for _, l := range finite() {
		codes, texts := map[string]bool{}, map[string]bool{}
		for _, v := range elements(l) {
			b, e := Encode(l, v)
			s, e2 := Text(l, v)
			if e != api.OK || e2 != api.OK || codes[string(b)] || texts[s] {
				t.Fatalf("%v of %v: %q, %d, %q, %d", v, l, b, e, s, e2)
			}
			codes[string(b)], texts[s] = true, true
			if got, e := Decode(l, b); e != api.OK || !same(got, v) {
				t.Fatalf("Decode(%v, %q): %v, %d", l, b, got, e)
			}
		}
		for b := range codes {
			for n := range len(b) {
				if codes[b[:n]] {
					t.Fatalf("%v: the encoding %q is a prefix of %q", l, b[:n], b)
				}
			}
		}
		for _, b := range short {
			if v, e := Decode(l, []byte(b)); (e == api.OK) != codes[b] || e != api.OK && (e != api.ErrSyntax || !reflect.DeepEqual(v, api.Value{})) {
				t.Fatalf("Decode(%v, %q): %v, %d", l, b, v, e)
			}
		}
	}
}

// TestDecodeErrors covers the error ErrSyntax of Decode.
func TestDecodeErrors(t *testing.T) {
	big := "\xff\xff\xff\xff\xff\xff\xff\xff\xff\x01" // 2^64 - 1
	for _, c := range []struct {
		l    api.Lattice
		list []string
	}{
		{note, []string{"", "\x06", "\x06\x02\x01y\x01x", "\x06\x02\x01x\x01x", "\x06\x01\x01x\x00", "\x14\x00", "\x01\x00", "\x06\x01\x01X", "\x06\x80\x00", "\x86\x00\x00"}},
		{flag, []string{"", "\x02", "\x00\x00", "\x81\x00", "\xff"}}, {five, []string{"", "\x01", "\x0c", "\x8a\x00", "\x0a\x00", big}},
		{set, []string{"", "\x01", "\x02\x01a", "\x01\x00", "\x01\x11abcdefghijklmnopq", "\xff\xff\xff\xff\x07", big, "\x01\x01a\x00"}}, {words(api.Set, "a"), []string{"\x01\x01b", "\x02\x01a\x01b"}},
		{mapOf(five), []string{"", "\x01", "\x01\x01k", "\x01\x01k\x00", "\x01\x01k\x0c", "\x02\x01l\x02\x01k\x02", "\x02\x01k\x02\x01k\x02", "\x02\x01k\x02", "\x01\x01K\x02", big}}, {mapOf(five, "k"), []string{"\x01\x01l\x02"}},
		{lex(flag, flag), []string{"", "\x01", "\x01\x02", "\x01\x01\x01"}}, {flat, []string{"", "\x01", "\x01\x00", "\x03", "\x00\x00", "\x02\x01a", "\x01\x01A", "\x01\x01a\x00", big, "\x80\x00", "\x82\x80\x80\x80\x80\x80\x80\x80\x80\x01"}}, {words(api.Flat, "a"), []string{"\x01\x01b"}},
		{register, []string{"", "\x01", "\x01\x00\x01x", "\x01\x01\x01\x00\x01x", "\x01\x01\x40\x01\x01x", "\x01\x02\x40\x01\x02\x01x", "\x01\x02\x01\x02\x40\x01x", "\x01\x01" + big + "\x01\x01x", "\x01\x01\x01" + big + "\x01x", "\x01\x01\x81\x80\x80\x80\x10\x01\x01x", "\x01\x01\x01\x81\x80\x9a\xa6\xea\xaf\xe3\x01\x01x", "\x01\x01\x01\x02\x01X", "\x01\x01\x01\x02\x00", "\x01\x02\x02\x01\x01\x01\x01x", "\x01\x02\x01\x01\x01\x01\x01x", "\x02\x01\x01\x01\x01a\x01\x01\x02\x01b", "\x02\x01\x02\x01\x01a\x01\x01\x01\x01a", "\x02\x01\x01\x01\x01a\x01\x01\x01\x01a", "\x01\x01\x01\x02\x01x\x00", big}},
		{closed([]string{"a", "b"}, api.Rule{If: []string{"a"}, Then: "b"}), []string{"", "\x01\x01a", "\x02\x01b\x01a", "\x01\x01c", "\x02\x01a\x01a"}},
	} {
		for _, b := range c.list {
			if v, e := Decode(c.l, []byte(b)); e != api.ErrSyntax || !reflect.DeepEqual(v, api.Value{}) {
				t.Errorf("Decode(%v, %q): %v, %d", c.l, b, v, e)
			}
		}
	}
}

// TestErrors covers the errors of Encode, Decode and Text, ErrArgument first.
func TestErrors(t *testing.T) {
	check := func(l api.Lattice, v api.Value, want api.Errno) {
		t.Helper()
		b, e1 := Encode(l, v)
		s, e2 := Text(l, v)
		if e1 != want || e2 != want || len(b) != 0 || s != "" {
			t.Errorf("%v of %v: %q, %d, %q, %d", v, l, b, e1, s, e2)
		}
	}
	for _, l := range invalid {
		for _, v := range []api.Value{{}, number(1), named("A"), parts(number(0)), parts(number(0), number(0))} {
			check(l, v, api.ErrArgument)
		}
		for _, b := range []string{"", "\x00", "\x00\x00", "\x01"} {
			if v, e := Decode(l, []byte(b)); e != api.ErrArgument || !reflect.DeepEqual(v, api.Value{}) {
				t.Errorf("Decode(%v, %q): %v, %d", l, b, v, e)
			}
		}
	}
	for _, l := range []api.Lattice{flag, five, set, flat, register, note, mapOf(five), lex(flag, set), closed([]string{"a"})} {
		for _, v := range []api.Value{number(7), number(-1), named("A"), named("b", "a"), parts(number(1)), parts(number(1), number(1)), keyed([]string{"k"}, number(0)), written(api.Entry{}), api.Value{N: 1, Names: []string{"a", "b"}}} {
			check(l, v, api.ErrType)
		}
	}
}

// randomRegister returns a register with up to three entries.
func randomRegister(source *rand.Rand) api.Value {
	for {
		var list []api.Entry
		for range source.Intn(4) {
			list = append(list, entry([]string{"a", "b"}[source.Intn(2)], []int64{1, int64(1 + source.Intn(3)), 2, int64(1 + source.Intn(3))}[2*source.Intn(2):]...))
		}
		slices.SortFunc(list, func(a, b api.Entry) int {
			if precedes(a, b) {
				return -1
			}
			return 1
		})
		if isRegister(list) {
			return written(list...)
		}
	}
}

// TestCodeOfRegisters covers P10.5 and P10.6 for maps of registers: what is read is what was written, different elements differ, and what is accepted is an encoding.
func TestCodeOfRegisters(t *testing.T) {
	source := rand.New(rand.NewSource(2))
	l := mapOf(register)
	codes, texts := map[string]api.Value{}, map[string]api.Value{}
	for range 10000 {
		v := api.Value{}
		for _, key := range []string{"a", "b-1", "c"} {
			if part := randomRegister(source); len(part.Entries) > 0 {
				v.Names, v.Parts = append(v.Names, key), append(v.Parts, part)
			}
		}
		b, e1 := Encode(l, v)
		s, e2 := Text(l, v)
		got, e3 := Decode(l, b)
		if e1 != api.OK || e2 != api.OK || e3 != api.OK || !same(got, v) {
			t.Fatalf("%v: %d, %d, %d, %v", v, e1, e2, e3, got)
		}
		if other, ok := codes[string(b)]; ok && !same(other, v) {
			t.Fatalf("%v and %v have one encoding", v, other)
		}
		if other, ok := texts[s]; ok && !same(other, v) {
			t.Fatalf("%v and %v have one text", v, other)
		}
		codes[string(b)], texts[s] = v, v
		b[source.Intn(len(b))] = byte(source.Intn(100))
		if got, e := Decode(l, b); e == api.OK {
			if again, e := Encode(l, got); e != api.OK || !bytes.Equal(again, b) {
				t.Fatalf("Decode(%q): %v", b, got)
			}
		}
	}
	for b := range codes {
		for n := range len(b) {
			if v, ok := codes[b[:n]]; ok {
				t.Fatalf("the encoding of %v is a prefix of that of %v", v, codes[b])
			}
		}
	}
}

// TestLarge covers P1: what is nested deeply or long ends.
func TestLarge(t *testing.T) {
	deep, other := number(1), number(2)
	for range 60000 {
		deep, other = keyed([]string{"k"}, deep), keyed([]string{"k"}, other)
	}
	if Compare(deep, other) != -1 || Equal(deep, other) || !Equal(deep, deep) || Nodes(deep) != 120001 || Valid(mapOf(mapOf(flag)), deep) || IsBottom(mapOf(flag), deep) {
		t.Error("a deep value")
	}
	if _, e := Text(mapOf(mapOf(flag)), deep); e != api.ErrType {
		t.Errorf("the text of a deep value: %d", e)
	}
	var list []string
	for i := range 100000 {
		list = append(list, "x"+strconv.Itoa(100000+i))
	}
	v := named(list...)
	b, e := Encode(set, v)
	got, e2 := Decode(set, b)
	s, e3 := Text(set, v)
	if e != api.OK || e2 != api.OK || e3 != api.OK || !Equal(got, v) || len(s) != 800001 || Valid(words(api.Set, "x"), v) || Nodes(v) != 100001 {
		t.Errorf("a large set: %d, %d, %d", e, e2, e3)
	}
	var entries []api.Entry
	for i := range int64(1500) {
		entries = append(entries, entry("a", 1, i+1, 2, 1500-i))
	}
	if !Valid(register, written(entries...)) || Valid(register, written(append(entries, entry("b", 1, 700))...)) {
		t.Error("a large register")
	}
	six := mapOf(mapOf(mapOf(mapOf(mapOf(flag, "a", "b"), "a", "b"), "a", "b"), "a", "b"), "a", "b")
	if v, e := Top(six); e != api.OK || !Valid(six, v) || Nodes(v) != 125 {
		t.Errorf("Top of six levels: %d nodes, %d", Nodes(v), e)
	}
	for _, l := range []api.Lattice{set, register, mapOf(five), mapOf(mapOf(set)), closed([]string{"a"})} {
		if _, e := Decode(l, []byte("\xc0\x84\x3d"+strings.Repeat("\x00", 1000000))); e != api.ErrSyntax {
			t.Errorf("Decode of a long list for %v: %d", l, e)
		}
	}
}

// TestSharesNothing covers the rules: arguments are not modified, and results share no memory with them or with each other.
func TestSharesNothing(t *testing.T) {
	l := mapOf(product(words(api.Set, "a", "b"), closed([]string{"c", "d"}), words(api.Flat, "a")), "k", "l")
	element := keyed([]string{"k", "l"}, parts(named("a", "b"), named("c", "d"), atom("a")), parts(named("a"), named("c"), number(2)))
	clocked := written(entry("a", 1, 1, 2, 2), entry("b", 3, 1))
	code, _ := Encode(l, element)
	kept := slices.Clone(code)
	run := func() []api.Value {
		top, _ := Top(l)
		least, _ := Bottom(l)
		pair, _ := Bottom(l.Parts[0])
		first, _ := Decode(l, code)
		b, _ := Encode(register, clocked)
		second, _ := Decode(register, b)
		Text(l, element)
		Text(register, clocked)
		return []api.Value{top, least, pair, first, second}
	}
	results, others := run(), run()
	if !sample.Overwrite(results) {
		t.Errorf("results share memory: %v", results)
	}
	if again := run(); !reflect.DeepEqual(again, others) {
		t.Errorf("a result was modified: %v", again)
	}
	if b, e := Encode(l, element); e != api.OK || !bytes.Equal(b, kept) || !bytes.Equal(code, kept) {
		t.Errorf("an argument was modified: %v", element)
	}
	if s, e := Text(register, clocked); e != api.OK || s != "[a@1:1.2:2 | b@3:1]" {
		t.Errorf("an argument was modified: %v", clocked)
	}
}
