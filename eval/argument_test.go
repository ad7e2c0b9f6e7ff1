package eval_test

import (
	"math"
	"math/rand"
	"testing"

	"plexus/api"
	"plexus/eval"
	"plexus/sample"
)

// arguments are data with what they are as arguments for a parameter of their sort.
func arguments() map[api.Errno][]api.Datum {
	return map[api.Errno][]api.Datum{
		api.OK: {
			number(0), number(1), number(-1), number(api.MaxNumber), number(-api.MaxNumber), truth(true), truth(false), name("a"), name("abcdefghij-12345"), name("set"),
			set(), set("a"), set("a", "b"), set("a", "a-1", "a1", "b"), {Sort: api.SortNames, Names: []string{}}, {Sort: api.SortInt, Names: []string{}},
		},
		api.ErrRange: {number(api.MaxNumber + 1), number(-api.MaxNumber - 1), number(math.MaxInt64), number(math.MinInt64), {Sort: api.SortBool, N: 2}, {Sort: api.SortBool, N: -1}, {Sort: api.SortBool, N: math.MinInt64}},
		api.ErrName:  {name(""), name("A"), name("1"), name("a b"), name("abcdefghij-123456"), set(""), set("a", "a"), set("b", "a"), set("a", "B"), set("a", "b", "c c"), set("a", "c", "b"), set("a", "b", "b"), set("1", "a"), set("abcdefghij-123456")},
		api.ErrType: {
			{Sort: api.SortInt, Name: "a"}, {Sort: api.SortInt, N: api.MaxNumber + 1, Name: "a"}, {Sort: api.SortInt, Names: []string{"a"}}, {Sort: api.SortBool, Name: "A"}, {Sort: api.SortBool, N: 2, Names: []string{"a"}},
			{Sort: api.SortName, Name: "a", N: 1}, {Sort: api.SortName, N: -1}, {Sort: api.SortName, Name: "a", Names: []string{"a"}}, {Sort: api.SortNames, N: 1}, {Sort: api.SortNames, Name: "a", Names: []string{"b", "a"}}, {Sort: api.SortNames, Names: []string{"a"}, N: math.MaxInt64},
			{}, {N: 1}, {Name: "a"}, {Names: []string{"a"}}, {Sort: 5}, {Sort: -1}, {Sort: 5, N: 1, Name: "a", Names: []string{"a"}}, {Sort: math.MaxInt}, {Sort: math.MinInt},
		},
	}
}

// param returns a parameter of a sort.
func param(sort int) api.Param { return api.Param{Name: "p", Sort: sort} }

// TestArgument covers P19.1: single arguments, for a parameter of their sort and of any other one.
func TestArgument(t *testing.T) {
	for want, list := range arguments() {
		for _, d := range list {
			if e := eval.Arguments([]api.Param{param(d.Sort)}, []api.Datum{d}); e != want {
				t.Errorf("%+v: %d, not %d", d, e, want)
			}
			for _, sort := range append(sorts, 0, 5, -1, math.MaxInt, math.MinInt) {
				if e := eval.Arguments([]api.Param{param(sort)}, []api.Datum{d}); sort != d.Sort && e != api.ErrType {
					t.Errorf("%+v for the sort %d: %d", d, sort, e)
				}
			}
		}
	}
}

// TestParams covers P19.1: names of parameters have no influence.
func TestParams(t *testing.T) {
	for _, s := range []string{"", "A", "a", "a"} {
		if e := eval.Arguments([]api.Param{{Name: s, Sort: api.SortInt}, {Name: "a", Sort: api.SortName}}, []api.Datum{number(1), name("a")}); e != api.OK {
			t.Errorf("%q: %d", s, e)
		}
	}
}

// TestCount covers P19.1: lists of different lengths, whatever their elements are.
func TestCount(t *testing.T) {
	good, bad := number(1), name("A")
	params := []api.Param{param(api.SortInt), param(9), param(api.SortInt)}
	for i := range 4 {
		for k := range 4 {
			for _, d := range []api.Datum{good, bad} {
				list := []api.Datum{d, d, d}
				e := eval.Arguments(params[:i], list[:k])
				want := api.ErrArgument
				if i == k {
					want = api.OK
					if i > 1 || i == 1 && d.Sort != api.SortInt {
						want = api.ErrType
					}
				}
				if e != want {
					t.Errorf("%d parameters, %d times %v: %d, not %d", i, k, d, e, want)
				}
			}
		}
	}
}

// TestFirstArgument covers P19.1: of several arguments the first one that is none decides.
func TestFirstArgument(t *testing.T) {
	source := rand.New(rand.NewSource(1))
	codes := []api.Errno{api.OK, api.OK, api.OK, api.ErrRange, api.ErrName, api.ErrType}
	for range 5000 {
		var params []api.Param
		var list []api.Datum
		want := api.OK
		for range source.Intn(10) {
			code := codes[source.Intn(len(codes))]
			some := arguments()[code]
			d := some[source.Intn(len(some))]
			params, list = append(params, param(d.Sort)), append(list, d)
			if want == api.OK {
				want = code
			}
		}
		before := text(list)
		if e := eval.Arguments(params, list); e != want || text(list) != before {
			t.Fatalf("%+v: %d, not %d", list, e, want)
		}
	}
}

// TestMadeArguments checks the arguments that the other tests use.
func TestMadeArguments(t *testing.T) {
	source := rand.New(rand.NewSource(2))
	for range 1000 {
		m := sample.NewMaker(source.Intn, api.Lattice{Kind: api.Flag})
		if e := eval.Arguments(m.Params, sample.Arguments(source.Intn, m.Params)); e != api.OK {
			t.Fatalf("%d", e)
		}
	}
}

// TestArgumentExample covers the chapter's example 4.
func TestArgumentExample(t *testing.T) {
	params := []api.Param{{Name: "i", Sort: api.SortInt}, {Name: "n", Sort: api.SortName}}
	for want, args := range map[api.Errno][]api.Datum{
		api.OK: {number(1), name("a")}, api.ErrArgument: {number(1)}, api.ErrType: {number(1), number(2)}, api.ErrRange: {number(1000000000000001), name("a")}, api.ErrName: {number(1), name("A")},
	} {
		if e := eval.Arguments(params, args); e != want {
			t.Errorf("%v: %d, not %d", args, e, want)
		}
	}
}
