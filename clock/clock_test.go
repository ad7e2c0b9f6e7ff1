package clock

import (
	"math"
	"math/rand"
	"slices"
	"testing"

	"plexus/api"
	"plexus/wire"
)

// vector returns the ticks of a list of processes and numbers.
func vector(list ...int64) []api.Tick {
	var c []api.Tick
	for i := 0; i < len(list); i += 2 {
		c = append(c, api.Tick{Process: int(list[i]), N: list[i+1]})
	}
	return c
}

// full is the version vector with the greatest numbers of all processes.
func full() []api.Tick {
	var c []api.Tick
	for p := range 64 {
		c = append(c, api.Tick{Process: p, N: api.MaxNumber})
	}
	return c
}

// valids are version vectors, among them those at the limits.
var valids = [][]api.Tick{
	nil, {}, vector(0, 1), vector(63, 1), vector(0, 1e15), vector(63, 1e15), vector(0, 3, 2, 1), vector(5, 2, 6, 1, 63, 7), full(),
}

// invalids are lists of ticks that are no version vectors.
var invalids = [][]api.Tick{
	vector(0, 0), vector(2, 0), vector(0, -1), vector(0, 1e15+1), vector(0, math.MaxInt64), vector(0, math.MinInt64),
	vector(-1, 1), vector(64, 1), vector(math.MaxInt64, 1), vector(math.MinInt64, 1),
	vector(1, 1, 1, 1), vector(1, 1, 1, 2), vector(2, 1, 1, 1), vector(0, 1, 1, 0), vector(0, 1, 2, 0, 3, 1), vector(0, 1, 5, 1, 4, 1), vector(0, 1, 64, 1),
	vector(-1, 1, 0, 1), append(full(), api.Tick{Process: 64, N: 1}),
}

// P7.1.
func TestValid(t *testing.T) {
	for _, c := range valids {
		if !Valid(c) {
			t.Errorf("%v is not valid", c)
		}
	}
	for _, c := range invalids {
		if Valid(c) {
			t.Errorf("%v is valid", c)
		}
	}
}

// P7.2: Get, for all processes and others.
func TestGet(t *testing.T) {
	for _, c := range valids {
		for p := -2; p < 70; p++ {
			want := int64(0)
			for _, tick := range c {
				if tick.Process == p {
					want = tick.N
				}
			}
			if n := Get(c, p); n != want {
				t.Errorf("Get(%v, %d): %d", c, p, n)
			}
		}
		if Get(c, math.MaxInt) != 0 || Get(c, math.MinInt) != 0 {
			t.Errorf("Get(%v) of a great number", c)
		}
	}
	for _, c := range invalids {
		for _, tick := range c {
			if n := Get(c, tick.Process); n != 0 {
				t.Errorf("Get(%v, %d): %d", c, tick.Process, n)
			}
		}
	}
}

// P7.2: Inc, with the example 1.
func TestInc(t *testing.T) {
	for _, c := range []struct {
		from []api.Tick
		p    int
		want []api.Tick
	}{
		{vector(2, 1), 0, vector(0, 1, 2, 1)}, {vector(2, 1), 2, vector(2, 2)}, {vector(2, 1), 63, vector(2, 1, 63, 1)}, {nil, 5, vector(5, 1)},
		{vector(1, 4, 3, 5), 2, vector(1, 4, 2, 1, 3, 5)}, {vector(1, 4, 3, 5), 3, vector(1, 4, 3, 6)}, {vector(0, 1e15-1), 0, vector(0, 1e15)}, {vector(0, 1e15), 1, vector(0, 1e15, 1, 1)},
	} {
		if got, e := Inc(c.from, c.p); e != api.OK || !slices.Equal(got, c.want) {
			t.Errorf("Inc(%v, %d): %v, %d", c.from, c.p, got, e)
		}
	}
	for _, c := range valids {
		for p := range 64 {
			got, e := Inc(c, p)
			if Get(c, p) == api.MaxNumber {
				if e != api.ErrLimit || len(got) != 0 {
					t.Errorf("Inc(%v, %d) at the limit: %v, %d", c, p, got, e)
				}
				continue
			}
			if e != api.OK || !Valid(got) {
				t.Fatalf("Inc(%v, %d): %v, %d", c, p, got, e)
			}
			for q := range 64 {
				if q == p && Get(got, q) != Get(c, q)+1 || q != p && Get(got, q) != Get(c, q) {
					t.Errorf("Inc(%v, %d): %v", c, p, got)
				}
			}
		}
	}
}

// The errors of Inc, ErrArgument first.
func TestIncErrors(t *testing.T) {
	for _, c := range invalids {
		for _, p := range []int{0, 1, 63, 64, -1} {
			if got, e := Inc(c, p); e != api.ErrArgument || len(got) != 0 {
				t.Errorf("Inc(%v, %d): %v, %d", c, p, got, e)
			}
		}
	}
	for _, c := range valids {
		for _, p := range []int{-1, 64, math.MaxInt, math.MinInt} {
			if got, e := Inc(c, p); e != api.ErrArgument || len(got) != 0 {
				t.Errorf("Inc(%v, %d): %v, %d", c, p, got, e)
			}
		}
	}
	if got, e := Inc(vector(1, 1e15, 0, 1), 1); e != api.ErrArgument || len(got) != 0 {
		t.Errorf("Inc of what is no version vector, at the limit: %v, %d", got, e)
	}
}

// somePairs calls visit with pairs of version vectors: the valid ones, all with three processes and small numbers, and random ones.
func somePairs(visit func(a, b []api.Tick)) {
	list := slices.Clone(valids)
	for code := range 27 {
		var c []api.Tick
		for i, p := range []int{0, 7, 63} {
			if n := code / []int{1, 3, 9}[i] % 3; n > 0 {
				c = append(c, api.Tick{Process: p, N: int64(n)})
			}
		}
		list = append(list, c)
	}
	for _, a := range list {
		for _, b := range list {
			visit(a, b)
		}
	}
	source := rand.New(rand.NewSource(1))
	for range 500 {
		visit(randomVector(source), randomVector(source))
	}
}

// randomVector returns a version vector.
func randomVector(source *rand.Rand) []api.Tick {
	var c []api.Tick
	share := source.Intn(5)
	for p := range 64 {
		if source.Intn(4) < share {
			c = append(c, api.Tick{Process: p, N: 1 + source.Int63n([]int64{2, 300, api.MaxNumber}[source.Intn(3)])})
		}
	}
	return c
}

// checkNumbers compares the numbers of a version vector.
func checkNumbers(t *testing.T, what string, a, b, got []api.Tick, want func(x, y int64) int64) {
	t.Helper()
	if !Valid(got) {
		t.Fatalf("%s of %v and %v: %v", what, a, b, got)
	}
	for p := range 64 {
		if Get(got, p) != want(Get(a, p), Get(b, p)) {
			t.Fatalf("%s of %v and %v: %v", what, a, b, got)
		}
	}
}

// P7.3.
func TestCombinations(t *testing.T) {
	somePairs(func(a, b []api.Tick) {
		checkNumbers(t, "Merge", a, b, Merge(a, b), func(x, y int64) int64 { return max(x, y) })
		checkNumbers(t, "Common", a, b, Common(a, b), func(x, y int64) int64 { return min(x, y) })
		checkNumbers(t, "Minus", a, b, Minus(a, b), func(x, y int64) int64 {
			if x <= y {
				return 0
			}
			return x
		})
	})
	a, b := vector(0, 3, 2, 1), vector(0, 1, 5, 4)
	if !slices.Equal(Merge(a, b), vector(0, 3, 2, 1, 5, 4)) || !slices.Equal(Common(a, b), vector(0, 1)) || !slices.Equal(Minus(a, b), a) || !slices.Equal(Minus(b, a), vector(5, 4)) {
		t.Error("the example 2")
	}
}

// P7.3 and P7.4: what is no version vector.
func TestInvalidPairs(t *testing.T) {
	for i, c := range invalids {
		for _, d := range append(slices.Clone(valids), c, invalids[(i+1)%len(invalids)]) {
			for _, pair := range [][2][]api.Tick{{c, d}, {d, c}} {
				a, b := pair[0], pair[1]
				if Merge(a, b) != nil || Common(a, b) != nil || Minus(a, b) != nil {
					t.Errorf("%v and %v have a result", a, b)
				}
				if Compare(a, b) != Concurrent {
					t.Errorf("Compare(%v, %v): %d", a, b, Compare(a, b))
				}
			}
		}
	}
}

// isAtMost is the order of the definition.
func isAtMost(a, b []api.Tick) bool {
	for p := range 64 {
		if Get(a, p) > Get(b, p) {
			return false
		}
	}
	return true
}

// P7.4, with the examples 2 and 3.
func TestCompare(t *testing.T) {
	if Equal != 0 || Before != 1 || After != 2 || Concurrent != 3 {
		t.Error("the constants")
	}
	somePairs(func(a, b []api.Tick) {
		want := Concurrent
		switch {
		case slices.Equal(a, b):
			want = Equal
		case isAtMost(a, b):
			want = Before
		case isAtMost(b, a):
			want = After
		}
		if got := Compare(a, b); got != want {
			t.Fatalf("Compare(%v, %v): %d instead of %d", a, b, got, want)
		}
	})
	if Compare(vector(0, 3, 2, 1), vector(0, 1, 5, 4)) != Concurrent || Compare(vector(0, 1), vector(0, 1, 2, 1)) != Before || Compare(vector(2, 0), nil) != Concurrent || Compare(vector(2, 0), vector(2, 0)) != Concurrent || Compare(nil, []api.Tick{}) != Equal {
		t.Error("the examples")
	}
}

// P7.5, with the example 4.
func TestEncode(t *testing.T) {
	for _, c := range []struct {
		vector []api.Tick
		data   string
	}{
		{nil, "\x00"}, {vector(0, 3, 2, 200), "\x02\x00\x03\x02\xc8\x01"}, {vector(63, 1), "\x01\x3f\x01"}, {vector(0, 127), "\x01\x00\x7f"},
		{vector(1, 1e15), "\x01\x01\x80\x80\x9a\xa6\xea\xaf\xe3\x01"},
	} {
		if got := Encode(c.vector); string(got) != c.data {
			t.Errorf("Encode(%v): %x", c.vector, got)
		}
		if got, e := Decode([]byte(c.data)); e != api.OK || !slices.Equal(got, c.vector) {
			t.Errorf("Decode(%x): %v, %d", c.data, got, e)
		}
	}
	for _, c := range invalids {
		if got := Encode(c); got != nil {
			t.Errorf("Encode(%v): %x", c, got)
		}
	}
}

// P7.5: the encoding of every version vector is decoded, but no part of it and nothing longer.
func TestEncodeAndDecode(t *testing.T) {
	somePairs(func(a, _ []api.Tick) {
		data := Encode(a)
		if got, e := Decode(data); e != api.OK || !slices.Equal(got, a) {
			t.Fatalf("Decode(%x): %v, %d instead of %v", data, got, e, a)
		}
		for i := range len(data) {
			checkNoVector(t, data[:i])
		}
		checkNoVector(t, append(slices.Clone(data), 0))
		checkNoVector(t, append(slices.Clone(data), 1, 1))
	})
}

// checkNoVector requires that Decode fails.
func checkNoVector(t *testing.T, data []byte) {
	t.Helper()
	if got, e := Decode(data); e != api.ErrSyntax || len(got) != 0 {
		t.Fatalf("Decode(%x): %v, %d", data, got, e)
	}
}

// encodeTicks encodes any ticks as Encode does.
func encodeTicks(c []api.Tick) []byte {
	var w wire.Writer
	w.Uint(uint64(len(c)))
	for _, tick := range c {
		w.Uint(uint64(tick.Process))
		w.Uint(uint64(tick.N))
	}
	return w.Data()
}

// The error of Decode.
func TestDecodeErrors(t *testing.T) {
	for _, c := range invalids {
		checkNoVector(t, encodeTicks(c))
	}
	for _, data := range []string{
		"", "\x01\x00\x00", "\x80\x00", "\x01\x80\x00\x01", "\x01\x00\x81\x00", // superfluous groups
		"\x02\x00\x01", "\x01\x00\x01\x01\x01", "\x02\x01\x01\x00\x01", "\x02\x01\x01\x01\x01", "\x01\x40\x01", "\x01\x00", "\x01",
		"\x01\x80\x80\x80\x80\x10\x01",                                    // the process 2^32
		"\x01\x80\x80\x80\x80\x80\x80\x80\x80\x80\x01\x01",                // the process 2^63
		"\x01\x00\x81\x80\x9a\xa6\xea\xaf\xe3\x01",                        // 10^15 + 1
		"\x01\x00\x81\x80\x80\x80\x80\x80\x80\x80\x80\x01",                // 2^63 + 1
		"\xff\xff\xff\xff\xff\xff\xff\xff\xff\x01\x00\x01",                // 2^64 - 1 ticks
		"\xff\xff\xff\xff\x07\x00\x01", "\x41" + string(make([]byte, 65)), // more ticks than bytes, and 65 ticks
	} {
		checkNoVector(t, []byte(data))
	}
}

// P7.5: Decode accepts exactly the encodings, for all short byte strings of some bytes.
func TestShortEncodings(t *testing.T) {
	alphabet := []byte{0, 1, 2, 3, 63, 64, 127, 128, 255}
	list := [][]byte{{}}
	for next := 0; next < len(list); next++ {
		data := list[next]
		if len(data) < 5 {
			for _, b := range alphabet {
				list = append(list, append(slices.Clone(data), b))
			}
		}
		c, e := Decode(data)
		if e == api.OK && (!Valid(c) || !slices.Equal(Encode(c), data)) || e != api.OK && (e != api.ErrSyntax || len(c) != 0) {
			t.Fatalf("Decode(%x): %v, %d", data, c, e)
		}
	}
}

// P7.6.
func TestConsequences(t *testing.T) {
	var list [][]api.Tick
	for code := range 16 {
		var c []api.Tick
		for p := range 2 {
			if n := code >> (2 * p) & 3; n > 0 {
				c = append(c, api.Tick{Process: 3 + p, N: int64(n)})
			}
		}
		list = append(list, c)
	}
	for _, a := range list {
		for _, b := range list {
			join, meet, rest := Merge(a, b), Common(a, b), Minus(a, b)
			if !isAtMost(a, join) || !isAtMost(b, join) || !isAtMost(meet, a) || !isAtMost(meet, b) || !slices.Equal(Merge(b, rest), join) {
				t.Fatalf("%v and %v: %v, %v, %v", a, b, join, meet, rest)
			}
			for _, c := range list {
				if isAtMost(a, c) && isAtMost(b, c) && !isAtMost(join, c) {
					t.Fatalf("Merge(%v, %v) is not least: %v", a, b, c)
				}
				if isAtMost(c, a) && isAtMost(c, b) && !isAtMost(c, meet) {
					t.Fatalf("Common(%v, %v) is not greatest: %v", a, b, c)
				}
				if slices.Equal(Merge(b, c), join) && !isAtMost(rest, c) {
					t.Fatalf("Minus(%v, %v) is not least: %v", a, b, c)
				}
			}
		}
	}
}

// The rules: arguments are not modified, and results share no memory with them or with each other.
func TestSharesNothing(t *testing.T) {
	fullA, fullB := vector(0, 3, 2, 1, 9, 9), vector(0, 1, 5, 4, 8, 8)
	a, b := fullA[:2], fullB[:2]
	data := Encode(a)
	calls := func() [][]api.Tick {
		next, _ := Inc(a, 1)
		again, _ := Inc(nil, 0)
		decoded, _ := Decode(data)
		return [][]api.Tick{next, again, decoded, Merge(a, b), Merge(a, nil), Merge(nil, b), Merge(a, a), Common(a, b), Common(a, a), Minus(a, b), Minus(a, nil)}
	}
	Get(a, 0)
	Compare(a, b)
	first, second := calls(), calls()
	for _, result := range first {
		for i := range result {
			result[i] = api.Tick{Process: 40, N: 40}
		}
		_ = append(result, api.Tick{Process: 41, N: 41})
	}
	clear(Encode(a))
	if !slices.Equal(fullA, vector(0, 3, 2, 1, 9, 9)) || !slices.Equal(fullB, vector(0, 1, 5, 4, 8, 8)) || !slices.Equal(data, Encode(a)) {
		t.Errorf("an argument was modified: %v, %v, %x", fullA, fullB, data)
	}
	if third := calls(); !slices.EqualFunc(second, third, slices.Equal[[]api.Tick]) {
		t.Errorf("a result was modified: %v instead of %v", third, second)
	}
}
