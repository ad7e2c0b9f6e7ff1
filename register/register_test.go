package register_test

import (
	"math"
	"math/rand"
	"reflect"
	"slices"
	"strconv"
	"testing"

	"plexus/api"
	"plexus/join"
	"plexus/register"
	"plexus/sample"
	"plexus/value"
)

// registers is the lattice of all registers.
var registers = api.Lattice{Kind: api.Register}

// Short names for what the tests are built with.
var entry, written = sample.Entry, sample.Written

// text returns the text of a register.
func text(v api.Value) string {
	s, _ := value.Text(registers, v)
	return s
}

// both returns the join of two registers.
func both(a, b api.Value) api.Value {
	v, _ := join.Join(registers, a, b)
	return v
}

// TestExamples covers P13.1 to P13.4 for the chapter's examples.
func TestExamples(t *testing.T) {
	x, e1 := register.Write(written(), 1, "x")
	y, e2 := register.Write(x, 2, "y")
	z, e3 := register.Write(written(), 0, "z")
	if e1 != api.OK || e2 != api.OK || e3 != api.OK || text(x) != "[x@1:1]" || text(y) != "[y@1:1.2:1]" || text(z) != "[z@0:1]" {
		t.Errorf("Write: %s, %d; %s, %d; %s, %d", text(x), e1, text(y), e2, text(z), e3)
	}
	joined := both(y, z)
	if list := register.Names(joined); text(joined) != "[y@1:1.2:1 | z@0:1]" || !slices.Equal(list, []string{"y", "z"}) || !register.Conflict(joined) {
		t.Errorf("%s: Names %v, Conflict %t", text(joined), list, register.Conflict(joined))
	}
	if c := register.Clock(joined); !slices.Equal(c, entry("", 0, 1, 1, 1, 2, 1).Clock) {
		t.Errorf("Clock: %v", c)
	}
	if v, e := register.Resolve(joined, 0); e != api.OK || text(v) != "[y@0:2.1:1.2:1]" {
		t.Errorf("Resolve: %s, %d", text(v), e)
	}
	if v := register.Since(joined, y); text(v) != "[z@0:1]" {
		t.Errorf("Since: %s", text(v))
	}
	if !register.Covers(joined, x) {
		t.Errorf("%s does not cover %s", text(joined), text(x))
	}
}

// TestWrite covers P13.1 and P13.3 for registers with some entries, and the greatest numbers.
func TestWrite(t *testing.T) {
	high, full := entry("a", 3, api.MaxNumber-1), entry("b", 3, api.MaxNumber)
	for i, c := range []struct {
		v          api.Value
		process    int
		want, kept string // of Write with the name k, and of Resolve
	}{
		{written(entry("x", 1, 5)), 1, "[k@1:6]", "[x@1:6]"}, {written(entry("x", 1, 5)), 0, "[k@0:1.1:5]", "[x@0:1.1:5]"}, {written(entry("x", 1, 5)), 63, "[k@1:5.63:1]", "[x@1:5.63:1]"},
		{written(entry("k", 1, 5)), 1, "[k@1:6]", "[k@1:6]"}, {written(entry("c", 2, 2), entry("d", 1, 3), entry("e", 1, 1, 2, 1)), 2, "[k@1:3.2:3]", "[c@1:3.2:3]"}, {written(entry("c", 2, 7), entry("c", 5, 2)), 4, "[k@2:7.4:1.5:2]", "[c@2:7.4:1.5:2]"}, {written(entry("a", 0, 2, 1, 1), entry("a", 0, 3), entry("b", 1, 4)), 1, "[k@0:3.1:5]", "[a@0:3.1:5]"},
		{written(entry("a", 1, 1), entry("a-", 2, 1), entry("ab", 3, 1)), 1, "[k@1:2.2:1.3:1]", "[a@1:2.2:1.3:1]"},
		{written(high), 3, "[k@3:1000000000000000]", "[a@3:1000000000000000]"}, {written(full), 4, "[k@3:1000000000000000.4:1]", "[b@3:1000000000000000.4:1]"},
		{written(entry("a", 4, 1), entry("b", 3, 9)), 3, "[k@3:10.4:1]", "[a@3:10.4:1]"},
	} {
		v, e := register.Write(c.v, c.process, "k")
		kept, e2 := register.Resolve(c.v, c.process)
		if e != api.OK || e2 != api.OK || text(v) != c.want || text(kept) != c.kept {
			t.Errorf("case %d: Write %s, %d; Resolve %s, %d", i, text(v), e, text(kept), e2)
		}
	}
}

// some returns registers whose entries are concurrent, among them some with one name or one clock in several entries.
func some() []api.Value {
	list := sample.Elements(registers)
	list = append(list, written(entry("a", 1, 1), entry("a", 2, 1), entry("b", 0, 1), entry("c", 0, 1)), written(entry("c", 0, 1, 1, 1)), written(entry("a", 0, 1, 1, 1, 2, 1), entry("a", 63, 1)), written(entry("b", 0, 1), entry("b", 1, 2, 2, 2)), written(entry("a-", 1, 1), entry("ab", 2, 3)))
	return list
}

// TestParts covers P13.2 to P13.4 for all pairs of some registers, computed from the definitions.
func TestParts(t *testing.T) {
	conflicts, covered := 0, 0
	for _, v := range some() {
		seen, clock := map[string]bool{}, map[int]int64{}
		for _, e := range v.Entries {
			seen[e.Name] = true
			for _, tick := range e.Clock {
				clock[tick.Process] = max(clock[tick.Process], tick.N)
			}
		}
		list := register.Names(v)
		if !slices.IsSorted(list) || len(list) != len(seen) || slices.ContainsFunc(list, func(s string) bool { return !seen[s] }) || register.Conflict(v) != (len(seen) >= 2) {
			t.Errorf("%s: Names %v, Conflict %t", text(v), list, register.Conflict(v))
		}
		c := register.Clock(v)
		isOther := func(tick api.Tick) bool { return clock[tick.Process] != tick.N }
		if len(c) != len(clock) || slices.ContainsFunc(c, isOther) || !slices.IsSortedFunc(c, func(x, y api.Tick) int { return x.Process - y.Process }) {
			t.Errorf("Clock(%s): %v", text(v), c)
		}
		if register.Conflict(v) {
			conflicts++
		}
		for _, w := range some() {
			var news []api.Entry
			for _, e := range v.Entries {
				if !sample.Leq(registers, written(e), w) {
					news = append(news, e)
				}
			}
			if d := register.Since(v, w); !sample.Same(d, written(news...)) || register.Covers(w, v) != (len(news) == 0) {
				t.Errorf("%s and %s: Since %s, Covers %t", text(v), text(w), text(d), register.Covers(w, v))
			}
			if len(v.Entries) > 0 && len(news) == 0 && !sample.Same(v, w) {
				covered++
			}
		}
	}
	if conflicts < 5 || covered < 5 {
		t.Errorf("only %d conflicts, and %d registers covered by others", conflicts, covered)
	}
}

// TestLaws covers P13.1, P13.3 and P13.5 for all pairs of some registers.
func TestLaws(t *testing.T) {
	for _, v := range some() {
		for p := range 4 {
			x, _ := register.Write(v, p, "x")
			y, _ := register.Write(v, p+1, "y")
			if !join.Leq(registers, v, x) || sample.Same(v, x) || len(x.Entries) != 1 {
				t.Errorf("%s is not strictly above %s", text(x), text(v))
			}
			for _, e := range v.Entries {
				if !sample.Below(e.Clock, x.Entries[0].Clock) {
					t.Errorf("an entry of %s is not below %s", text(v), text(x))
				}
			}
			joined := both(x, y)
			last, _ := register.Write(joined, p, "z")
			if len(joined.Entries) != 2 || !sample.Same(both(joined, last), last) {
				t.Errorf("%s and %s leave %s, and then %s", text(x), text(y), text(joined), text(both(joined, last)))
			}
			if len(v.Entries) > 0 {
				want, _ := register.Write(v, p, v.Entries[0].Name)
				if kept, e := register.Resolve(v, p); e != api.OK || !sample.Same(kept, want) {
					t.Errorf("Resolve(%s, %d): %s, %d", text(v), p, text(kept), e)
				}
			}
		}
		for _, old := range some() {
			d := register.Since(v, old)
			if !value.Valid(registers, d) || !sample.Same(both(old, d), both(old, v)) || register.Covers(old, v) != join.Leq(registers, v, old) {
				t.Errorf("%s since %s: %s, Covers %t", text(v), text(old), text(d), register.Covers(old, v))
			}
		}
	}
}

// copyOfRegister is a copy of a register, with the writes that are known to it.
type copyOfRegister struct {
	v     api.Value
	known map[string]bool
}

// learn adds what another copy knows.
func (c *copyOfRegister) learn(v api.Value, known map[string]bool) {
	c.v = both(c.v, v)
	for s := range known {
		c.known[s] = true
	}
}

// TestCopies covers P13.5: in copies that are written and joined, the entries are the known writes that no other known write had known.
func TestCopies(t *testing.T) {
	source := rand.New(rand.NewSource(1))
	conflicts := 0
	for range 50 {
		had := map[string]map[string]bool{} // what was known when a name was written
		copies := make([]copyOfRegister, 4)
		for p := range copies {
			copies[p].known = map[string]bool{}
		}
		for step := range 40 {
			p, q := source.Intn(len(copies)), source.Intn(len(copies))
			c := &copies[p]
			switch source.Intn(3) {
			case 0: // all writes have different names
				name := "w" + strconv.Itoa(step)
				had[name] = map[string]bool{}
				for s := range c.known {
					had[name][s] = true
				}
				v, e := register.Write(c.v, p, name)
				if e != api.OK {
					t.Fatal(e)
				}
				c.learn(v, map[string]bool{name: true})
			case 1:
				c.learn(copies[q].v, copies[q].known)
			case 2: // a part is enough
				c.learn(register.Since(copies[q].v, c.v), copies[q].known)
			}
			var want []string
			for s := range c.known {
				isOver := false
				for other := range c.known {
					isOver = isOver || had[other][s]
				}
				if !isOver {
					want = append(want, s)
				}
			}
			slices.Sort(want)
			if list := register.Names(c.v); !slices.Equal(list, want) || len(c.v.Entries) != len(want) {
				t.Fatalf("process %d: %s, not %v", p, text(c.v), want)
			}
			if register.Conflict(c.v) {
				conflicts++
			}
		}
	}
	if conflicts < 100 {
		t.Errorf("only %d conflicts", conflicts)
	}
}

// strangers are values that are not registers.
var strangers = []api.Value{
	{N: 1}, {Names: []string{"a"}}, {Parts: []api.Value{{}}}, written(api.Entry{}), written(api.Entry{Name: "a"}), written(entry("A", 1, 1)), written(entry("a", 1, 0)), written(entry("a", 64, 1)), written(entry("a", -1, 1)), written(entry("a", 2, 1, 1, 1)), written(entry("a", 1, api.MaxNumber+1)), written(entry("a", 1, math.MinInt64)),
	written(entry("b", 1, 1), entry("a", 2, 1)), written(entry("a", 1, 1), entry("a", 1, 1)), written(entry("a", 1, 1), entry("b", 1, 2)), written(entry("a", 1, 2), entry("b", 1, 1)), {N: 1, Entries: []api.Entry{entry("a", 1, 1)}},
}

// TestErrors covers the errors, of which the first one is returned, with the zero value.
func TestErrors(t *testing.T) {
	full := written(entry("a", 1, api.MaxNumber), entry("b", 2, 5))
	check := func(v api.Value, process int, name string, ofWrite, ofResolve api.Errno) {
		t.Helper()
		w, e1 := register.Write(v, process, name)
		r, e2 := register.Resolve(v, process)
		if e1 != ofWrite || e2 != ofResolve {
			t.Errorf("%v, process %d, %q: %d, %d", v, process, name, e1, e2)
		}
		if e1 != api.OK && !reflect.DeepEqual(w, api.Value{}) || e2 != api.OK && !reflect.DeepEqual(r, api.Value{}) {
			t.Errorf("%v, process %d, %q: a value with an error", v, process, name)
		}
	}
	for _, v := range strangers {
		check(v, 1, "x", api.ErrType, api.ErrType)
		check(v, 64, "X", api.ErrType, api.ErrType)
	}
	for _, p := range []int{-1, 64, math.MinInt, math.MaxInt} {
		check(written(), p, "x", api.ErrArgument, api.ErrArgument)
		check(full, p, "", api.ErrArgument, api.ErrArgument)
	}
	for _, name := range []string{"", "X", "9", "-a", "a_", "a ", "a\x00", "abcdefghijklmnopq", "\xff"} {
		check(written(entry("a", 1, 1)), 1, name, api.ErrName, api.OK)
		check(full, 1, name, api.ErrName, api.ErrLimit)
		check(written(), 1, name, api.ErrName, api.ErrNone)
	}
	check(written(), 0, "abcdefghijklmnop", api.OK, api.ErrNone)
	check(written(), 63, "x", api.OK, api.ErrNone)
	check(full, 1, "x", api.ErrLimit, api.ErrLimit)
	check(written(entry("a", 2, 5), entry("b", 1, api.MaxNumber)), 1, "x", api.ErrLimit, api.ErrLimit)
	check(full, 2, "x", api.OK, api.OK)
	check(written(entry("a", 1, api.MaxNumber-1)), 1, "x", api.OK, api.OK)
}

// TestStrangers covers P1: the functions without errors end, whatever the values are.
func TestStrangers(t *testing.T) {
	for _, v := range strangers {
		register.Names(v)
		register.Clock(v)
		register.Conflict(v)
		for _, w := range append(strangers, written(), written(entry("a", 1, 1))) {
			register.Since(v, w)
			register.Since(w, v)
			register.Covers(v, w)
			register.Covers(w, v)
		}
	}
}

// TestSharesNothing covers the rules: arguments are not modified, results share no memory with them or with each other, and nil and empty slices are equivalent.
func TestSharesNothing(t *testing.T) {
	for _, kept := range some() {
		v, old := sample.Clone(kept), written(entry("c", 1, 1))
		w, _ := register.Write(v, 1, "x")
		again, _ := register.Write(v, 1, "x")
		r, _ := register.Resolve(v, 1)
		d, all := register.Since(v, old), register.Since(v, written())
		clock, list := written(api.Entry{Clock: register.Clock(v)}), sample.Named(register.Names(v)...)
		register.Conflict(v)
		register.Covers(v, old)
		if !sample.Same(v, kept) || !sample.Same(old, written(entry("c", 1, 1))) {
			t.Fatalf("an argument was modified: %v", kept)
		}
		if !sample.Overwrite([]api.Value{v, old, w, again, r, d, all, clock, list}) {
			t.Fatalf("memory of %v is shared", kept)
		}
	}
	empty := api.Value{Names: []string{}, Parts: []api.Value{}, Entries: []api.Entry{}}
	a := written(entry("a", 1, 1))
	v, e := register.Write(empty, 1, "a")
	_, e2 := register.Resolve(empty, 1)
	if e != api.OK || e2 != api.ErrNone || !sample.Same(v, a) || len(register.Names(empty)) > 0 || len(register.Clock(empty)) > 0 || register.Conflict(empty) {
		t.Errorf("empty slices and nil are not the same: %v, %d, %d", v, e, e2)
	}
	if !register.Covers(empty, api.Value{}) || !register.Covers(api.Value{}, empty) || register.Covers(empty, a) || !sample.Same(register.Since(a, empty), a) || len(register.Since(empty, a).Entries) > 0 {
		t.Error("empty slices and nil do not cover the same")
	}
}

// TestLarge covers P1: long registers.
func TestLarge(t *testing.T) {
	const count = 1500
	var list []api.Entry
	for i := range int64(count) {
		list = append(list, entry("n"+strconv.FormatInt(count+i, 10), 1, i+1, 2, count-i))
	}
	v := written(list...)
	if w, e := register.Write(v, 3, "x"); e != api.OK || text(w) != "[x@1:1500.2:1500.3:1]" {
		t.Errorf("Write: %s, %d", text(w), e)
	}
	if w, e := register.Resolve(v, 1); e != api.OK || text(w) != "[n1500@1:1501.2:1500]" {
		t.Errorf("Resolve: %s, %d", text(w), e)
	}
	if d := register.Since(v, written(list[:count-1]...)); !sample.Same(d, written(list[count-1])) || register.Covers(written(list[1:]...), v) || !register.Covers(v, v) || len(register.Names(v)) != count {
		t.Errorf("Since: %s", text(d))
	}
	var wide api.Entry
	for p := range api.MaxProcess + 1 {
		wide.Clock = append(wide.Clock, api.Tick{Process: p, N: api.MaxNumber})
	}
	wide.Name = "w"
	for p := range api.MaxProcess + 1 {
		if _, e := register.Write(written(wide), p, "x"); e != api.ErrLimit {
			t.Errorf("process %d: %d", p, e)
		}
	}
}
