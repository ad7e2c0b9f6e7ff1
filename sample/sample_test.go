package sample_test

import (
	"fmt"
	"math/rand"
	"reflect"
	"strings"
	"testing"

	"plexus/api"
	"plexus/eval"
	"plexus/lattice"
	"plexus/sample"
	"plexus/types"
	"plexus/value"
)

// TestDescriptions checks that descriptions are valid or not, and that the elements are different elements of them.
func TestDescriptions(t *testing.T) {
	for _, l := range append(sample.Finite(), sample.Nested()...) {
		codes := map[string]bool{}
		for _, v := range sample.Elements(l) {
			b, e := value.Encode(l, v)
			if e != api.OK || codes[string(b)] {
				t.Errorf("%v in %v: %d", v, l, e)
			}
			codes[string(b)] = true
		}
		if len(codes) == 0 || len(codes) > 300 {
			t.Errorf("%v has %d elements", l, len(codes))
		}
	}
	for _, l := range sample.Invalid() {
		if lattice.Check(l) == api.OK {
			t.Errorf("%v is valid", l)
		}
	}
}

// TestElements checks how many elements there are.
func TestElements(t *testing.T) {
	flag, set, ab := api.Lattice{Kind: api.Flag}, api.Lattice{Kind: api.Set}, []string{"a", "b"}
	for i, c := range []struct {
		l    api.Lattice
		want int
	}{
		{flag, 2}, {sample.Bounds(api.Min, -1, 3), 5}, {set, 4}, {sample.Words(api.Set, "a", "b", "c"), 8}, {api.Lattice{Kind: api.Flat}, 4}, {sample.Words(api.Flat, "a"), 3}, {sample.MapOf(sample.Bounds(api.Max, 0, 2)), 9}, {sample.MapOf(set, "k"), 4}, {sample.Product(flag, set), 8}, {sample.Lex(flag, set), 8}, {sample.Closed(ab, api.Rule{If: []string{"a"}, Then: "b"}), 3},
		// Ten registers without the clock 1:1.2:1, and two with it: only 1:2 can be beside it.
		{api.Lattice{Kind: api.Register}, 12},
	} {
		if n := len(sample.Elements(c.l)); n != c.want {
			t.Errorf("case %d: %d elements", i, n)
		}
	}
}

// TestRandom checks that random elements are elements, and that several of them occur.
func TestRandom(t *testing.T) {
	source := rand.New(rand.NewSource(1))
	for _, l := range sample.Objects() {
		codes := map[string]bool{}
		for range 500 {
			v := sample.Element(source.Intn, l)
			b, e := value.Encode(l, v)
			if e != api.OK {
				t.Fatalf("%v in %v: %d", v, l, e)
			}
			codes[string(b)] = true
		}
		// Of flat there are four elements, but many of most others that are not finite.
		least := 4
		if lattice.Finite(l) {
			least = min(8, len(sample.Elements(l)))
		}
		if len(codes) < least {
			t.Errorf("only %d elements of %v", len(codes), l)
		}
	}
}

// TestOverwrite checks that memory that is shared is found.
func TestOverwrite(t *testing.T) {
	a := sample.Keyed([]string{"k"}, sample.Written(sample.Entry("x", 1, 1)))
	other := sample.Clone(a)
	if !sample.Same(a, other) || !sample.Overwrite([]api.Value{a, other}) {
		t.Error("a value and its copy share memory")
	}
	for i, b := range []api.Value{{Names: a.Names}, {Parts: a.Parts}, a.Parts[0], sample.Written(api.Entry{Clock: a.Parts[0].Entries[0].Clock})} {
		if sample.Overwrite([]api.Value{a, b}) {
			t.Errorf("case %d: memory that is shared is not found", i)
		}
	}
}

// TestSeparate checks that memory that is shared is found, in all types, also behind the end of a slice.
func TestSeparate(t *testing.T) {
	fresh := func() []any {
		list := []string{"a", "b", "c"}
		l := sample.Product(sample.Closed(list, api.Rule{If: list[:1:1], Then: "b"}), api.Lattice{Kind: api.Set})
		l.Parts[0].Rules[0].If = []string{"a"}
		v := sample.Parts(sample.Keyed([]string{"k"}, sample.Written(sample.Entry("x", 1, 1))), sample.Named("a"))
		d := api.Datum{Sort: api.SortNames, Names: []string{"a"}}
		x := api.Expr{Type: sample.Of(sample.MapOf(api.Lattice{Kind: api.Set}, "a")), Kids: []api.Expr{{}}}
		f := api.Function{Params: []api.Param{{Name: "a"}}, Body: x}
		o := api.Object{Name: "o", Lattice: sample.Words(api.Set, "a")}
		return []any{l, v, d, x, f, "text", []string{"a"}, []api.Object{o}, api.Type{Lattice: sample.Words(api.Flat, "a")}, []api.Datum{d}, api.Node{Kids: []api.Node{{}}}, []api.Param{{Name: "a"}}, api.Program{Objects: []api.Object{o}, Updates: []api.Function{f}}, api.Program{Queries: []api.Function{f}}, []byte("a"), sample.AnyMessage(rand.New(rand.NewSource(1)).Intn), [][]int{{1}}, [][2]int{{1, 2}}, [][]api.Event{{{Uses: []int{1}}}}, api.Packet{Payload: []byte("a")}, []api.Packet{{Payload: []byte("a")}}, []api.Delivery{{Payload: []byte("a")}}}
	}
	shared := 0
	for i := range fresh() {
		if !sample.Separate(fresh()[i], fresh()[i]) {
			t.Errorf("value %d shares memory", i)
		}
		if v := fresh()[i]; !sample.Separate(v, v) {
			shared++
		}
	}
	if shared != len(fresh())-1 {
		t.Errorf("shared memory is found in %d values", shared)
	}
	list := []string{"a", "b"}
	b := []byte("a")
	if sample.Separate([]api.Packet{{Payload: b}, {Payload: b}}) || sample.Separate([]api.Delivery{{Payload: b}}, api.Packet{Payload: b}) {
		t.Error("payloads")
	}
	if sample.Separate(list[:1], list[1:]) || !sample.Separate(list[:1:1], list[1:]) || sample.Separate(1) || sample.Separate(sample.Product(api.Lattice{Names: list}, api.Lattice{Names: list})) {
		t.Error("parts of a list")
	}
}

// lists returns the slices in a value.
func lists(v reflect.Value) []reflect.Value {
	var list []reflect.Value
	switch v.Kind() {
	case reflect.Struct:
		for i := range v.NumField() {
			list = append(list, lists(v.Field(i))...)
		}
	case reflect.Slice:
		list = append(list, v)
		for i := range v.Len() {
			list = append(list, lists(v.Index(i))...)
		}
	}
	return list
}

// TestMessages checks that random messages have something in all lists, and that memory that is shared is found in each of them.
func TestMessages(t *testing.T) {
	for seed := range int64(20) {
		fresh := func() *api.Message {
			m := sample.AnyMessage(rand.New(rand.NewSource(seed)).Intn)
			return &m
		}
		m := fresh()
		for i, list := range lists(reflect.ValueOf(m).Elem()) {
			if list.Len() == 0 {
				t.Errorf("the list %d of %+v is empty", i, m)
			}
			other := fresh()
			if !sample.Separate(*m, *other) {
				t.Fatal("two messages share memory")
			}
			lists(reflect.ValueOf(other).Elem())[i].Set(list)
			if sample.Separate(*m, *other) {
				t.Errorf("memory that is shared is not found in the list %d of %+v", i, m)
			}
		}
	}
}

// TestDisks checks what is written to a disk and read from it.
func TestDisks(t *testing.T) {
	d := sample.Disk(3, 16)
	sample.Put(d, 1, "ab")
	zeros := strings.Repeat("\x00", 14)
	if got := sample.Sectors(d, 1, 2); got != "ab"+zeros+zeros+"\x00\x00" || sample.Sectors(d, 3, 1) != "" || d.Cached() != 1 {
		t.Errorf("%q", got)
	}
	if list := fmt.Sprint(sample.Flags(6, 4), sample.Flags(7, 2), sample.Flags(1, 0)); list != "[false true true false] [true true] []" {
		t.Error(list)
	}
}

// TestAdding checks that what is added is an elaboration, and has many values.
func TestAdding(t *testing.T) {
	source := rand.New(rand.NewSource(2))
	for _, l := range sample.Objects() {
		more := 0
		for range 100 {
			m := sample.NewMaker(source.Intn, l)
			x := m.Adding(sample.Of(l))
			e, fault := types.Expression(l, m.Params, sample.Of(l), x.Tree)
			if fault.Code != api.OK || fmt.Sprint(e) != fmt.Sprint(x.Expr) {
				t.Fatalf("%+v: %v, %+v", x, fault, e)
			}
			bottom, _ := value.Bottom(l)
			v, code := eval.Value(e, bottom, sample.Arguments(source.Intn, m.Params))
			if code == api.OK && !sample.Same(v, bottom) {
				more++
			}
		}
		if top, e := value.Top(l); more < 20 && (e != api.OK || !value.IsBottom(l, top)) {
			t.Errorf("%+v: only %d elements are not the bottom", l, more)
		}
	}
}
