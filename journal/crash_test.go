package journal_test

import (
	"math/rand"
	"slices"
	"strings"
	"testing"

	"plexus/api"
	"plexus/disk"
	"plexus/journal"
	"plexus/sample"
)

// operation is Append of a batch, or Reset.
type operation struct {
	reset bool
	batch []string
}

// run carries out an operation.
func (o operation) run(j *journal.Journal) api.Errno {
	if o.reset {
		return j.Reset()
	}
	return j.Append(batch(o.batch...))
}

// after returns the list that an operation makes of a list.
func (o operation) after(list []string) []string {
	if o.reset {
		return nil
	}
	return slices.Concat(list, o.batch)
}

// The region of the cases: three sectors of 16 bytes in a disk of seven sectors.
const (
	first = 2
	count = 4
	all   = 7
	room  = 48
)

// prepared returns a disk on whose region these operations were carried out, with foreign contents beside the region, and its journal. Something in the sector 0 is in the cache only.
func prepared(t *testing.T, operations []operation) (*disk.Disk, *journal.Journal) {
	t.Helper()
	d := sample.Disk(all, 16)
	for _, i := range []int{0, 1, 6} {
		sample.Put(d, i, strings.Repeat("foreign", 2))
	}
	d.Sync()
	j := opened(t, d, first, count)
	for _, o := range operations {
		if e := o.run(j); e != api.OK {
			t.Fatalf("an operation before: %d", e)
		}
	}
	sample.Put(d, 0, "cached")
	return d, j
}

// beside returns the contents beside the region.
func beside(d *disk.Disk) string {
	return sample.Sectors(d, 0, first) + sample.Sectors(d, first+count, all-first-count)
}

// cases are operations that are interrupted, behind others.
var cases = [][]operation{
	{{batch: []string{""}}},
	{{batch: []string{"abc"}}},
	{{reset: true}},
	{{batch: []string{strings.Repeat("x", 47)}}},
	{{batch: []string{"abc"}}, {batch: []string{"de", "", "f"}}},
	{{batch: []string{"abc"}}, {reset: true}},
	{{batch: []string{"abc"}}, {batch: []string{strings.Repeat("x", 30), "more"}}},
	{{batch: []string{strings.Repeat("x", 15)}}, {batch: []string{"behind the border"}}},
	{{batch: []string{strings.Repeat("x", 14)}}, {batch: []string{"across the border"}}},
	{{batch: []string{strings.Repeat("x", 31)}}, {batch: []string{strings.Repeat("y", 15)}}},
	{{batch: []string{strings.Repeat("x", 47)}}, {reset: true}},
	{{batch: []string{strings.Repeat("x", 47)}}, {reset: true}, {batch: []string{"abc", "de"}}},
	{{batch: []string{strings.Repeat("x", 47)}}, {reset: true}, {batch: []string{strings.Repeat("z", 20), strings.Repeat("\x01", 20)}}},
	{{batch: []string{"a"}}, {batch: []string{"b"}}, {reset: true}, {batch: []string{"c"}}, {batch: []string{"d", strings.Repeat("e", 33)}}},
}

// P26.2, P26.3 and P26.6: each of the cases is interrupted at each operation of the disk, and each choice of writes survives.
func TestInterrupted(t *testing.T) {
	for i, operations := range cases {
		last := operations[len(operations)-1]
		var before []string
		for _, o := range operations[:len(operations)-1] {
			before = o.after(before)
		}
		c := interrupted{number: i, earlier: operations[:len(operations)-1], last: last, before: before, behind: last.after(before)}
		for c.fail = 0; c.tryAll(t); c.fail++ {
		}
		if c.fail < 2 || !c.foundBefore || !c.foundBehind {
			t.Errorf("the case %d: %d operations of the disk, found the list before: %t, behind: %t", i, c.fail, c.foundBefore, c.foundBehind)
		}
	}
}

// interrupted is a case: the list before the last operation and behind it, and which of them were found after crashes.
type interrupted struct {
	number                   int
	earlier                  []operation
	last                     operation
	before, behind           []string
	fail                     int
	foundBefore, foundBehind bool
}

// tryAll lets the power fail after some operations of the disk, with each choice of writes that survive, and reports whether the last operation was interrupted.
func (c *interrupted) tryAll(t *testing.T) bool {
	t.Helper()
	for bits := 0; ; bits++ {
		d, j := prepared(t, c.earlier)
		d.Fail(c.fail)
		e := c.last.run(j)
		cached := d.Cached()
		if bits >= 1<<cached {
			return e != api.OK
		}
		keep := sample.Flags(bits, cached)
		if e == api.OK {
			is(t, "behind the operation", j, room, false, c.behind...)
			d.Crash(keep)
			c.found(t, d, c.behind)
			is(t, "the journal after a crash", j, room, false, c.behind...)
			continue
		}
		if e != api.ErrDown || !d.Down() {
			t.Fatalf("the case %d, failing after %d: %d", c.number, c.fail, e)
		}
		c.isDown(t, j)
		d.Crash(keep)
		c.isDown(t, j)
		if d.Cached() != 0 || d.Down() {
			t.Fatalf("the case %d: a journal that is down writes", c.number)
		}
		list := c.before
		if got, _ := holds(d, first, count); slices.Equal(got, c.behind) {
			list = c.behind
		}
		c.found(t, d, list)
	}
}

// isDown checks a journal whose operation was interrupted.
func (c *interrupted) isDown(t *testing.T, j *journal.Journal) {
	t.Helper()
	is(t, "interrupted", j, room, true, c.before...)
	for i, e := range []api.Errno{j.Append(nil), j.Append(batch("x")), j.Append(batch(strings.Repeat("x", 100))), j.Reset()} {
		if e != api.ErrDown {
			t.Fatalf("the case %d: the operation %d of a journal that is down returns %d", c.number, i, e)
		}
	}
	is(t, "interrupted", j, room, true, c.before...)
}

// found checks that the region holds a list, and what is beside it, after a crash.
func (c *interrupted) found(t *testing.T, d *disk.Disk, want []string) {
	t.Helper()
	got, ok := holds(d, first, count)
	if !ok || !slices.Equal(got, want) {
		t.Fatalf("the case %d, failing after %d: %q, %t instead of %q", c.number, c.fail, got, ok, want)
	}
	is(t, "opened again", opened(t, d, first, count), room, false, want...)
	c.foundBefore = c.foundBefore || slices.Equal(want, c.before)
	c.foundBehind = c.foundBehind || slices.Equal(want, c.behind)
	outside := beside(d)
	foreign := sectorText("foreignforeign") + sectorText("foreignforeign")
	if outside != sectorText("foreignforeign")+foreign && outside != sectorText("cached")+foreign {
		t.Fatalf("the case %d: beside the region there is %q", c.number, outside)
	}
}

// sectorText returns a text with zeros behind it, 16 bytes in all.
func sectorText(s string) string { return s + strings.Repeat("\x00", 16-len(s)) }

// P26.6: when an operation returns OK, cached writes to other sectors are durable.
func TestSyncOfOthers(t *testing.T) {
	for _, o := range []operation{{batch: []string{"a"}}, {reset: true}} {
		d, j := prepared(t, nil)
		if e := o.run(j); e != api.OK || d.Cached() != 0 {
			t.Errorf("%d, %d cached", e, d.Cached())
		}
		d.Crash(nil)
		if b := sample.Sectors(d, 0, 1); b != sectorText("cached") {
			t.Errorf("the sector 0 is %q", b)
		}
	}
}

// Errors: without power a journal is down from the next operation on, whichever it is.
func TestPowerOff(t *testing.T) {
	for i, o := range []operation{{batch: nil}, {batch: []string{"x"}}, {batch: []string{strings.Repeat("x", 100)}}, {reset: true}} {
		d, j := prepared(t, []operation{{batch: []string{"abc"}}})
		d.Fail(0)
		d.Sync()
		is(t, "not yet down", j, room, false, "abc")
		if e := o.run(j); e != api.ErrDown {
			t.Errorf("the operation %d: %d", i, e)
		}
		is(t, "down", j, room, true, "abc")
		d.Crash(nil)
		for k, again := range []operation{{batch: nil}, {batch: []string{"x"}}, {reset: true}} {
			if e := again.run(j); e != api.ErrDown {
				t.Errorf("the operations %d and %d: %d", i, k, e)
			}
		}
		is(t, "still down", j, room, true, "abc")
		is(t, "opened again", opened(t, d, first, count), room, false, "abc")
	}
}

// P26.2: a journal that did nothing while the power was off goes on.
func TestGoesOn(t *testing.T) {
	d, j := prepared(t, []operation{{batch: []string{"abc"}}})
	d.Fail(0)
	d.Sync()
	d.Crash([]bool{true})
	if e := j.Append(batch("de")); e != api.OK {
		t.Errorf("Append: %d", e)
	}
	is(t, "appended", j, room, false, "abc", "de")
	d.Crash(nil)
	is(t, "opened again", opened(t, d, first, count), room, false, "abc", "de")
}

// P26.1 to P26.6: random operations, failures and crashes, compared with a list.
func TestRandom(t *testing.T) {
	source := rand.New(rand.NewSource(1))
	for range 150 {
		size, count := 16+source.Intn(20), 2+source.Intn(5)
		d := sample.Disk(count+3, size)
		sample.Put(d, 0, "before")
		sample.Put(d, count+1, "behind")
		d.Sync()
		outside := sample.Sectors(d, 0, 1) + sample.Sectors(d, count+1, 2)
		s := state{j: opened(t, d, 1, count), d: d, count: count, room: (count - 1) * size}
		for range 100 {
			s.step(t, source)
			if sample.Sectors(d, 0, 1)+sample.Sectors(d, count+1, 2) != outside {
				t.Fatal("a sector outside of the region was written")
			}
		}
	}
}

// state is a journal with the list that it should have.
type state struct {
	d           *disk.Disk
	j           *journal.Journal
	count, room int
	list        []string
}

// step carries out a random operation, often with a failure in it, and checks its effect.
func (s *state) step(t *testing.T, source *rand.Rand) {
	t.Helper()
	o := operation{reset: source.Intn(8) == 0}
	for !o.reset && source.Intn(3) > 0 {
		o.batch = append(o.batch, strings.Repeat(string(rune('a'+source.Intn(26))), source.Intn(20)*source.Intn(4)))
	}
	if source.Intn(3) == 0 {
		s.d.Fail(source.Intn(8))
	}
	want := o.after(s.list)
	switch e := o.run(s.j); {
	case len(stream(want)) > s.room:
		if e != api.ErrFull {
			t.Fatalf("%v: %d", o, e)
		}
	case e == api.ErrDown:
		is(t, "interrupted", s.j, s.room, true, s.list...)
		s.d.Crash(sample.Flags(source.Int(), s.d.Cached()))
		if got, _ := holds(s.d, 1, s.count); !slices.Equal(got, s.list) && !slices.Equal(got, want) {
			t.Fatalf("%v: %q instead of %q", o, got, s.list)
		}
		s.j = opened(t, s.d, 1, s.count)
		s.list = texts(s.j)
	case e != api.OK:
		t.Fatalf("%v: %d", o, e)
	default:
		s.list = want
	}
	if source.Intn(3) == 0 {
		s.d.Crash(sample.Flags(source.Int(), s.d.Cached()))
	}
	if got, ok := holds(s.d, 1, s.count); !ok || !slices.Equal(got, s.list) {
		t.Fatalf("%v: the region holds %q, %t instead of %q", o, got, ok, s.list)
	}
	is(t, "after the step", s.j, s.room, false, s.list...)
}

// P1: the zero Journal is down; its functions do not panic.
func TestZeroJournal(t *testing.T) {
	var j journal.Journal
	if len(j.Records()) != 0 || j.Left() != -1 || !j.Down() || j.Append(nil) != api.ErrDown || j.Append(batch("x")) != api.ErrDown || j.Reset() != api.ErrDown {
		t.Error("the zero Journal")
	}
	if k, e := journal.Open(new(disk.Disk), 0, 2); e != api.ErrArgument || k != nil {
		t.Errorf("Open on the zero Disk: %d", e)
	}
}
