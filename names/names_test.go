package names

import (
	"math/bits"
	"math/rand"
	"slices"
	"strconv"
	"strings"
	"testing"

	"plexus/api"
)

// strangeStrings are elements of sets that are no names; sets may contain any strings.
var strangeStrings = []string{"", "a", "aa", "ab", "b", "a\x00", "\x00", "\xff", "A", "-", "é", "z"}

// randomList returns a list with repeated elements in any order.
func randomList(source *rand.Rand) []string {
	var list []string
	for range source.Intn(12) {
		list = append(list, strangeStrings[source.Intn(len(strangeStrings))])
	}
	return list
}

// P2.1: a name has 1 to 16 bytes of its alphabet, and begins with a letter.
func TestValid(t *testing.T) {
	for _, s := range []string{"a", "z", "az", "a0", "a9", "a-", "a--", "x-1-y", "abcdefghijklmnop", "a123456789012345", strings.Repeat("z", 16)} {
		if !Valid(s) {
			t.Errorf("%q is not valid", s)
		}
	}
	for _, s := range []string{"", "0", "9a", "-", "-a", "A", "aB", "a b", " a", "a ", "a_", "a.b", "a\x00", "a\xff", "é", "aé", "abcdefghijklmnopq", strings.Repeat("a", 17), strings.Repeat("a", 1000)} {
		if Valid(s) {
			t.Errorf("%q is valid", s)
		}
	}
}

func TestValidBytes(t *testing.T) {
	for c := range 256 {
		s := string([]byte{byte(c)})
		first := strings.Contains("abcdefghijklmnopqrstuvwxyz", s)
		if Valid(s) != first || Valid(s+"a") != first {
			t.Errorf("%q as the first byte", s)
		}
		other := first || strings.Contains("0123456789-", s)
		for _, whole := range []string{"a" + s, "a" + s + "b", strings.Repeat("a", 15) + s} {
			if Valid(whole) != other {
				t.Errorf("Valid(%q) is not %v", whole, other)
			}
		}
	}
}

// P2.1: sorted means that each element is less than the next one.
func TestSorted(t *testing.T) {
	for _, c := range []struct {
		list []string
		want bool
	}{
		{nil, true}, {[]string{}, true}, {[]string{"b"}, true}, {[]string{"a", "b"}, true}, {[]string{"", "a", "aa", "b"}, true},
		{[]string{"b", "a"}, false}, {[]string{"a", "a"}, false}, {[]string{"", ""}, false}, {[]string{"aa", "a"}, false},
		{[]string{"a", "c", "b"}, false}, {[]string{"a", "b", "b"}, false}, {[]string{"b", "a", "c"}, false},
		{[]string{"A", "a", "\xff"}, true}, {[]string{"z", "é"}, true}, {[]string{"\xff", "a"}, false}, {[]string{"a\x00", "a"}, false},
	} {
		if Sorted(c.list) != c.want {
			t.Errorf("Sorted(%q) is not %v", c.list, c.want)
		}
	}
}

// P2.2: the results are the sorted slices of the sets.
func TestSets(t *testing.T) {
	for _, c := range []struct {
		a, b, of, union, intersect, minus []string
	}{
		{},
		{a: []string{"b", "a", "b"}, of: []string{"a", "b"}, union: []string{"a", "b"}, minus: []string{"a", "b"}},
		{b: []string{"b", "a", "b"}, union: []string{"a", "b"}},
		{[]string{"c", "a"}, []string{"b", "c", "b"}, []string{"a", "c"}, []string{"a", "b", "c"}, []string{"c"}, []string{"a"}},
		{[]string{"a", "a"}, []string{"a"}, []string{"a"}, []string{"a"}, []string{"a"}, nil},
		{[]string{"b", "", "\xff"}, []string{"", "a", "c"}, []string{"", "b", "\xff"}, []string{"", "a", "b", "c", "\xff"}, []string{""}, []string{"b", "\xff"}},
		{[]string{"ab", "a", "abc"}, []string{"ab"}, []string{"a", "ab", "abc"}, []string{"a", "ab", "abc"}, []string{"ab"}, []string{"a", "abc"}},
	} {
		for _, r := range []struct {
			name      string
			got, want []string
		}{
			{"Of", Of(c.a), c.of}, {"Union", Union(c.a, c.b), c.union}, {"Intersect", Intersect(c.a, c.b), c.intersect}, {"Minus", Minus(c.a, c.b), c.minus},
		} {
			if !slices.Equal(r.got, r.want) {
				t.Errorf("%s of %q and %q: %q instead of %q", r.name, c.a, c.b, r.got, r.want)
			}
		}
	}
}

// P2.2 to P2.4, compared with maps: for all strings, in any order, repeated or not.
func TestSetsAtRandom(t *testing.T) {
	source := rand.New(rand.NewSource(1))
	for range 3000 {
		a, b := randomList(source), randomList(source)
		inA, inB := setOf(a), setOf(b)
		checkSet(t, "Of", Of(a), func(s string) bool { return inA[s] })
		checkSet(t, "Union", Union(a, b), func(s string) bool { return inA[s] || inB[s] })
		checkSet(t, "Intersect", Intersect(a, b), func(s string) bool { return inA[s] && inB[s] })
		checkSet(t, "Minus", Minus(a, b), func(s string) bool { return inA[s] && !inB[s] })
		subset := true
		for _, s := range strangeStrings {
			if Has(a, s) != inA[s] {
				t.Fatalf("Has(%q, %q)", a, s)
			}
			subset = subset && (!inA[s] || inB[s])
		}
		if Subset(a, b) != subset {
			t.Fatalf("Subset(%q, %q) is not %v", a, b, subset)
		}
		if (Compare(a, b) == 0) != (subset && Subset(b, a)) || Compare(a, b) != -Compare(b, a) {
			t.Fatalf("Compare(%q, %q) is %d", a, b, Compare(a, b))
		}
		if subset && !Subset(b, a) && Compare(a, b) != -1 {
			t.Fatalf("the proper subset %q of %q is not less", a, b)
		}
		if c := randomList(source); Compare(a, b) <= 0 && Compare(b, c) <= 0 && Compare(a, c) > 0 {
			t.Fatalf("Compare is not transitive: %q, %q, %q", a, b, c)
		}
	}
}

func setOf(list []string) map[string]bool {
	set := map[string]bool{}
	for _, s := range list {
		set[s] = true
	}
	return set
}

// checkSet compares a result with a set of strange strings.
func checkSet(t *testing.T, name string, got []string, has func(s string) bool) {
	t.Helper()
	var want []string
	for _, s := range strangeStrings {
		if has(s) {
			want = append(want, s)
		}
	}
	slices.Sort(want)
	if !slices.Equal(got, want) {
		t.Fatalf("%s: %q instead of %q", name, got, want)
	}
}

// P2.3: membership and inclusion.
func TestHas(t *testing.T) {
	list := []string{"c", "", "a", "c", "b"}
	for _, s := range []string{"c", "", "a", "b"} {
		if !Has(list, s) {
			t.Errorf("Has(%q, %q) is false", list, s)
		}
	}
	for _, s := range []string{"d", "aa", "A", "\x00"} {
		if Has(list, s) {
			t.Errorf("Has(%q, %q) is true", list, s)
		}
	}
	if Has(nil, "") || Has([]string{}, "a") {
		t.Error("the empty set has an element")
	}
}

func TestSubset(t *testing.T) {
	for _, c := range []struct {
		a, b []string
		want bool
	}{
		{nil, nil, true}, {nil, []string{"a"}, true}, {[]string{"a"}, nil, false}, {[]string{""}, nil, false},
		{[]string{"b", "b", "a"}, []string{"a", "c", "b"}, true}, {[]string{"a", "d"}, []string{"a", "c", "b"}, false},
		{[]string{"a", "a", "a"}, []string{"a"}, true}, {[]string{"a"}, []string{"aa", "A"}, false},
	} {
		if Subset(c.a, c.b) != c.want {
			t.Errorf("Subset(%q, %q) is not %v", c.a, c.b, c.want)
		}
	}
}

// P2.4: fewer elements first, then the lesser element at the first index with a difference.
func TestCompare(t *testing.T) {
	sets := [][]string{
		{}, {""}, {"a"}, {"aa"}, {"b"}, {"\xff"}, {"", "a"}, {"", "c"}, {"a", "b"}, {"a", "c"}, {"b", "c"}, {"a", "b", "c"}, {"a", "b", "d"}, {"a", "c", "d"},
	}
	for i, a := range sets {
		for k, b := range sets {
			want := 0
			if i < k {
				want = -1
			} else if i > k {
				want = 1
			}
			repeated := append(slices.Clone(b), b...)
			slices.Reverse(repeated)
			if Compare(a, b) != want || Compare(a, repeated) != want || Compare(repeated, a) != -want {
				t.Errorf("Compare(%q, %q) is not %d", a, b, want)
			}
		}
	}
	if Compare([]string{"b"}, []string{"a", "b"}) != -1 || Compare([]string{"a", "c"}, []string{"b", "c"}) != -1 || Compare([]string{"b"}, []string{"a"}) != 1 {
		t.Error("the example 1")
	}
}

// P2.5: all subsets, in order.
func TestSubsets(t *testing.T) {
	all, e := Subsets([]string{"b", "a"})
	if e != api.OK || !equalSets(all, [][]string{{}, {"a"}, {"b"}, {"a", "b"}}) {
		t.Errorf("the example 3: %q, %d", all, e)
	}
	all, e = Subsets(nil)
	if e != api.OK || !equalSets(all, [][]string{{}}) {
		t.Errorf("the subsets of the empty set: %q, %d", all, e)
	}
	all, e = Subsets([]string{"", "c", "", "a"})
	if e != api.OK || !equalSets(all, [][]string{{}, {""}, {"a"}, {"c"}, {"", "a"}, {"", "c"}, {"a", "c"}, {"", "a", "c"}}) {
		t.Errorf("the subsets of three elements: %q, %d", all, e)
	}
}

func equalSets(a, b [][]string) bool {
	return slices.EqualFunc(a, b, func(x, y []string) bool { return slices.Equal(x, y) })
}

// P2.5: the subsets of up to ten elements, compared with those that the bits of numbers choose.
func TestSubsetsOfAllSizes(t *testing.T) {
	list := []string{"j", "c", "i", "a", "h", "b", "g", "d", "f", "e"}
	for n := range len(list) + 1 {
		all, e := Subsets(slices.Concat(list[:n], list[:n]))
		if e != api.OK || len(all) != 1<<n {
			t.Fatalf("%d elements: %d subsets, %d", n, len(all), e)
		}
		found := map[int]bool{}
		for i, set := range all {
			mask := 0
			for _, s := range set {
				mask |= 1 << slices.Index(list[:n], s)
			}
			found[mask] = true
			if !Sorted(set) || len(set) != bits.OnesCount(uint(mask)) || i > 0 && Compare(all[i-1], set) != -1 {
				t.Fatalf("subset %d of %d elements: %q", i, n, set)
			}
		}
		if len(found) != 1<<n {
			t.Fatalf("%d elements: %d different subsets", n, len(found))
		}
	}
}

// The errors of Subsets: the number of elements of the set counts, not that of the list.
func TestSubsetsLimit(t *testing.T) {
	var list []string
	for i := range 11 {
		list = append(list, "x"+strconv.Itoa(i))
	}
	if all, e := Subsets(list); e != api.ErrLimit || len(all) != 0 {
		t.Errorf("eleven elements: %d subsets, %d", len(all), e)
	}
	if all, e := Subsets(append(list, strangeStrings...)); e != api.ErrLimit || len(all) != 0 {
		t.Errorf("more elements: %d subsets, %d", len(all), e)
	}
	list[10] = "x3"
	if all, e := Subsets(list); e != api.OK || len(all) != 1024 {
		t.Errorf("ten elements, one of them repeated: %d subsets, %d", len(all), e)
	}
}

// P2.6: the text of a set, and its error.
func TestText(t *testing.T) {
	for _, c := range []struct {
		list []string
		want string
		e    api.Errno
	}{
		{nil, "{}", api.OK}, {[]string{"a"}, "{a}", api.OK}, {[]string{"b", "a", "b"}, "{a,b}", api.OK}, {[]string{"b-1", "b", "abcdefghijklmnop"}, "{abcdefghijklmnop,b,b-1}", api.OK},
		{[]string{""}, "", api.ErrName}, {[]string{"a", "B"}, "", api.ErrName}, {[]string{"9", "a"}, "", api.ErrName}, {[]string{"a", "a,b", "c"}, "", api.ErrName},
		{[]string{"abcdefghijklmnopq"}, "", api.ErrName}, {[]string{"a", "b\xff"}, "", api.ErrName},
	} {
		if s, e := Text(c.list); s != c.want || e != c.e {
			t.Errorf("Text(%q): %q, %d", c.list, s, e)
		}
	}
}

// P2.6: the sets of sources.
func TestParse(t *testing.T) {
	for _, c := range []struct {
		source string
		want   []string
	}{
		{"{}", nil}, {"  {  }  ", nil}, {"{a}", []string{"a"}}, {"{b,a}", []string{"a", "b"}}, {" { b , a } ", []string{"a", "b"}},
		{"{a-,a,a0}", []string{"a", "a-", "a0"}}, {"{abcdefghijklmnop}", []string{"abcdefghijklmnop"}}, {"{c,  b,a   }", []string{"a", "b", "c"}},
	} {
		if list, at, e := Parse(c.source); e != api.OK || at != 0 || !slices.Equal(list, c.want) {
			t.Errorf("Parse(%q): %q, %d, %d", c.source, list, at, e)
		}
	}
}

// The errors of Parse, with their offsets.
func TestParseErrors(t *testing.T) {
	for _, c := range []struct {
		source string
		at     int
		e      api.Errno
	}{
		// A token is lacking at the end.
		{"", 0, api.ErrSyntax}, {"   ", 3, api.ErrSyntax}, {"{", 1, api.ErrSyntax}, {"{ ", 2, api.ErrSyntax}, {"{a", 2, api.ErrSyntax}, {"{a ", 3, api.ErrSyntax}, {"{a,", 3, api.ErrSyntax}, {" {a ,  ", 7, api.ErrSyntax},
		// A byte begins no token that is required.
		{"a}", 0, api.ErrSyntax}, {" }", 1, api.ErrSyntax}, {",", 0, api.ErrSyntax}, {"{{", 1, api.ErrSyntax}, {"{,}", 1, api.ErrSyntax}, {"{ ,a}", 2, api.ErrSyntax},
		{"{a,}", 3, api.ErrSyntax}, {"{a,,b}", 3, api.ErrSyntax}, {"{a,{", 3, api.ErrSyntax}, {"{a b}", 3, api.ErrSyntax}, {"{a  {", 4, api.ErrSyntax},
		{"{}x", 2, api.ErrSyntax}, {"{} }", 3, api.ErrSyntax}, {"{a}{b}", 3, api.ErrSyntax}, {"{a} ,", 4, api.ErrSyntax}, {"{a}9", 3, api.ErrSyntax},
		{"{A}", 1, api.ErrSyntax}, {"{aB}", 2, api.ErrSyntax}, {"{a_b}", 2, api.ErrSyntax}, {"{a,B}", 3, api.ErrSyntax}, {"{a}\n", 3, api.ErrSyntax}, {"\t{a}", 0, api.ErrSyntax}, {"{a\t}", 2, api.ErrSyntax},
		{"{\x00}", 1, api.ErrSyntax}, {"{a\xff", 2, api.ErrSyntax}, {"{é}", 1, api.ErrSyntax}, {"\"{a}\"", 0, api.ErrSyntax},
		// A word is not a name, or occurred before.
		{"{9}", 1, api.ErrName}, {"{-", 1, api.ErrName}, {"{a,9}", 3, api.ErrName}, {"{a, -b}", 4, api.ErrName}, {"{0a}", 1, api.ErrName}, {"{abcdefghijklmnopq}", 1, api.ErrName}, {"{ a , " + strings.Repeat("b", 17), 6, api.ErrName},
		{"{a,a}", 3, api.ErrName}, {"{a,b, a}", 6, api.ErrName}, {"{b,a,b,a}", 5, api.ErrName}, {"{a,a", 3, api.ErrName},
		// The first error counts.
		{"{9A", 1, api.ErrName}, {"{a,a B", 3, api.ErrName}, {"{A,9}", 1, api.ErrSyntax}, {"{a b,b}", 3, api.ErrSyntax}, {"{a,9,}", 3, api.ErrName}, {"{a,,a}", 3, api.ErrSyntax}, {"9", 0, api.ErrSyntax}, {"{a}9,9", 3, api.ErrSyntax},
	} {
		if list, at, e := Parse(c.source); e != c.e || at != c.at || len(list) != 0 {
			t.Errorf("Parse(%q): %q, %d, %d instead of %d, %d", c.source, list, at, e, c.at, c.e)
		}
	}
}

// P2.6: Parse returns the set of list for Text(list), and no source of it is shorter.
func TestTextAndParse(t *testing.T) {
	source := rand.New(rand.NewSource(2))
	const alphabet = "az09-"
	for range 2000 {
		var list []string
		for range source.Intn(6) {
			name := "ab"[source.Intn(2):][:1]
			for range source.Intn(3) {
				name += alphabet[source.Intn(len(alphabet)):][:1]
			}
			list = append(list, name)
		}
		text, e := Text(list)
		got, at, e2 := Parse(text)
		if e != api.OK || e2 != api.OK || at != 0 || !slices.Equal(got, Of(list)) {
			t.Fatalf("%q has the text %q (%d), which is the set %q (%d)", list, text, e, got, e2)
		}
		spread := " " + strings.ReplaceAll(text, ",", "  , ") + " "
		if got, _, e := Parse(spread); e != api.OK || !slices.Equal(got, Of(list)) {
			t.Fatalf("%q is the set %q (%d)", spread, got, e)
		}
	}
}

// P2.6, and P1: for all short sources, an error has its offset and no set, and the text of a set is at most as long as its source.
func TestShortSources(t *testing.T) {
	const alphabet = "{}, a9\xff"
	sources := []string{""}
	for next := 0; next < len(sources); next++ {
		s := sources[next]
		if len(s) < 6 {
			for i := range len(alphabet) {
				sources = append(sources, s+alphabet[i:i+1])
			}
		}
		list, at, e := Parse(s)
		if e != api.OK {
			if len(list) != 0 || at < 0 || at > len(s) || e != api.ErrSyntax && e != api.ErrName {
				t.Fatalf("Parse(%q): %q, %d, %d", s, list, at, e)
			}
			continue
		}
		text, e := Text(list)
		if again, _, _ := Parse(text); at != 0 || e != api.OK || len(text) > len(s) || !slices.Equal(again, list) || !Sorted(list) {
			t.Fatalf("Parse(%q): %q, %d, with the text %q", s, list, at, text)
		}
	}
}

// The rules: arguments are not modified, and results share no memory with them or with each other.
func TestSharesNothing(t *testing.T) {
	full := []string{"c", "a", "b", "c", "spare"}
	a, b := full[:4], []string{"b", "d", "b"}
	calls := func() [][]string {
		all, _ := Subsets(a)
		list, _, _ := Parse("{b,a,c}")
		return append(all, Of(a), Union(a, b), Union(a, nil), Union(nil, a), Intersect(a, b), Minus(a, b), Minus(a, nil), Of([]string{"a", "b"}), list)
	}
	Subset(a, b)
	Compare(a, b)
	Text(a)
	first, second := calls(), calls()
	for _, result := range first {
		for i := range result {
			result[i] = "changed"
		}
		_ = append(result, "appended")
	}
	if !slices.Equal(full, []string{"c", "a", "b", "c", "spare"}) || !slices.Equal(b, []string{"b", "d", "b"}) {
		t.Errorf("an argument was modified: %q, %q", full, b)
	}
	if third := calls(); !equalSets(second, third) {
		t.Errorf("a result was modified: %q, %q", second, third)
	}
	for i, result := range second {
		for k := range result {
			result[k] = strconv.Itoa(i)
		}
	}
	for i, result := range second {
		for _, s := range result {
			if s != strconv.Itoa(i) {
				t.Errorf("two results share memory: %q at %d", s, i)
			}
		}
	}
}

// Long lists are handled in a time that does not grow with the square of their length.
func TestLongLists(t *testing.T) {
	var list []string
	for i := range 100000 {
		list = append(list, "x"+strconv.Itoa(i))
	}
	text, e := Text(list)
	if e != api.OK {
		t.Fatalf("Text: %d", e)
	}
	got, _, e := Parse(text)
	if e != api.OK || !slices.Equal(got, Of(list)) || !Subset(got, list) || len(Intersect(list, got)) != len(list) || len(Union(list, got)) != len(list) {
		t.Errorf("Parse: %d elements, %d", len(got), e)
	}
}
