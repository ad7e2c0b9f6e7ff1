package checkpoint_test

import (
	"fmt"
	"math/rand"
	"slices"
	"testing"

	"plexus/api"
	"plexus/checkpoint"
	"plexus/disk"
	"plexus/sample"
)

// before is what a region of eight sectors of 64 bytes has in its slots before something is saved: generations with contents, none with 0.
var before = [][2]saved{
	{{}, {}},
	{{"abc", 1}, {}},
	{{}, {"abc", 1}},
	{{"abc", 5}, {"def", 6}},
	{{"abc", 6}, {"def", 5}},
	{{"abc", 5}, {"def", 5}},
	{{letters(192, 'a'), greatest - 2}, {letters(65, 'A'), greatest - 1}},
}

// prepared returns a disk of eleven sectors with these slots from sector 2 on, junk everywhere else, and its store.
func prepared(t *testing.T, slots [2]saved) (*disk.Disk, *checkpoint.Store) {
	t.Helper()
	d := laid(11, 64, 0, "")
	for i, s := range slots {
		if s.generation > 0 {
			lay(d, 2+i*4, padded(header(s.content, uint64(s.generation)), 64)+s.content)
		}
	}
	return d, opened(t, d, 2, 8)
}

// operations returns what Save carries out by the definition: the writes, each with its sector, and the syncs.
func operations(slots [2]saved, b string) []string {
	target, generation := 2, slots[1].generation
	if slots[0].generation >= slots[1].generation && slots[0].generation > 0 {
		target, generation = 6, slots[0].generation
	}
	list := []string{written(target, ""), "sync"}
	for at := 0; at < len(b); at += 64 {
		list = append(list, written(target+1+at/64, b[at:min(len(b), at+64)]))
	}
	return append(list, "sync", written(target, header(b, uint64(generation+1))), "sync")
}

// written tells of a write.
func written(sector int, begin string) string {
	return fmt.Sprintf("write %d %x", sector, padded(begin, 64))
}

// carriedOut returns what Save carries out, found by failures at all operations: the one before the failure was a sync if nothing is in the cache then, and otherwise the write that is the last one in it.
func carriedOut(t *testing.T, slots [2]saved, b string) []string {
	t.Helper()
	var list []string
	for n := 1; n < 20; n++ {
		none, c := prepared(t, slots)
		none.Fail(n)
		e := c.Save([]byte(b))
		cached := none.Cached()
		last, same := prepared(t, slots)
		last.Fail(n)
		same.Save([]byte(b))
		none.Crash(nil)
		last.Crash(sample.Flags(1<<cached>>1, cached))
		did := ""
		for sector := range none.Sectors() {
			if text := sample.Sectors(last, sector, 1); text != sample.Sectors(none, sector, 1) {
				did += written(sector, text)
			}
		}
		if cached == 0 {
			did = "sync"
		}
		list = append(list, did)
		if e == api.OK {
			return list
		}
	}
	return list
}

// P27.4: Save carries out these operations in this order, and no others.
func TestOperations(t *testing.T) {
	for i, slots := range before {
		for _, length := range []int{0, 1, 63, 64, 65, 127, 128, 129, 191, 192} {
			b := letters(length, '0')
			if got, want := carriedOut(t, slots, b), operations(slots, b); !slices.Equal(got, want) {
				t.Errorf("the case %d with %d bytes: %d operations %q instead of %d %q", i, length, len(got), got, len(want), want)
			}
		}
	}
}

// P27.3 to P27.6 and the example 3: a Save is interrupted at each operation, and each choice of writes survives.
func TestInterrupted(t *testing.T) {
	for _, slots := range before {
		old := slots[1]
		if slots[0].generation >= slots[1].generation {
			old = slots[0]
		}
		for _, length := range []int{0, 3, 64, 100, 192} {
			x := interrupted{slots: slots, old: old, new: saved{letters(length, '0'), old.generation + 1}}
			last := len(operations(slots, x.new.content)) - 1
			for n := range last + 3 {
				x.try(t, n, last)
			}
		}
	}
}

// interrupted is a Save that is interrupted: the slots, the newest checkpoint of them, and the new one.
type interrupted struct {
	slots    [2]saved
	old, new saved
}

// try lets the power fail after n operations, where last is the number of those before the last one, with each choice of writes that survive.
func (x interrupted) try(t *testing.T, n, last int) {
	t.Helper()
	for bits, choices := 0, 1; bits < choices; bits++ {
		d, c := prepared(t, x.slots)
		beside := sample.Sectors(d, 0, 2) + sample.Sectors(d, 10, 1)
		d.Fail(n)
		e := c.Save([]byte(x.new.content))
		cached := d.Cached()
		choices = 1 << cached
		if (e == api.OK) != (n > last) || e != api.OK && e != api.ErrDown || d.Down() != (e != api.OK) {
			t.Fatalf("Save, failing after %d of %d operations: %d", n, last+1, e)
		}
		if e == api.OK {
			is(t, "saved", c, 192, false, x.new)
		} else {
			x.isDown(t, c)
		}
		d.Crash(sample.Flags(bits, cached))
		if e != api.OK {
			d.Fail(0)
			x.isDown(t, c)
		}
		if d.Down() || d.Cached() != 0 {
			t.Fatal("a store that is down carries out operations")
		}
		want := x.old
		if n > last || n == last && bits == 1 {
			want = x.new
		}
		if got, _ := holds(d, 2, 8); got != want {
			t.Fatalf("failing after %d of %d operations, %d surviving: the region holds the generation %d", n, last+1, bits, got.generation)
		}
		checkOpen(t, d, 2, 8, want)
		if sample.Sectors(d, 0, 2)+sample.Sectors(d, 10, 1) != beside {
			t.Fatal("a sector beside the region was written")
		}
	}
}

// isDown checks a store whose Save was interrupted.
func (x interrupted) isDown(t *testing.T, c *checkpoint.Store) {
	t.Helper()
	is(t, "interrupted", c, 192, true, x.old)
	for _, length := range []int{0, 1, 192, 193, 1000} {
		if e := c.Save(make([]byte, length)); e != api.ErrDown {
			t.Fatalf("Save of %d bytes by a store that is down: %d", length, e)
		}
	}
	is(t, "down", c, 192, true, x.old)
}

// P27.4: Save syncs, so what else is in the cache is durable when it returns OK.
func TestSyncOfOthers(t *testing.T) {
	d, c := prepared(t, before[0])
	sample.Put(d, 0, "other")
	if e := c.Save(nil); e != api.OK || d.Cached() != 0 {
		t.Errorf("%d, %d cached", e, d.Cached())
	}
	d.Crash(nil)
	if sample.Sectors(d, 0, 1) != padded("other", 64) {
		t.Error("the cached write to another sector is lost")
	}
}

// P27.6: random contents of a region, then openings, saves, failures and crashes.
func TestRandom(t *testing.T) {
	source := rand.New(rand.NewSource(1))
	found := map[string]int{}
	for range 400 {
		size, count := 64+source.Intn(3)*18, 4+source.Intn(7)
		d := laid(count+2, size, 1, "")
		for slot := range 2 {
			if generation := source.Intn(4); generation > 0 {
				content := letters(source.Intn((count/2-1)*size+1), 'a')
				lay(d, 1+slot*(count/2), padded(header(content, uint64(generation)), size)+content)
			}
		}
		newest, _ := holds(d, 1, count)
		for range 10 {
			newest = life(t, source, d, count, newest, found)
		}
	}
	if found["before"] < 100 || found["interrupted"] < 100 {
		t.Errorf("found after failures: %v", found)
	}
}

// life opens a store that has to find the newest checkpoint, saves until the power fails or for a while, lets the disk crash, and returns the newest checkpoint then.
func life(t *testing.T, source *rand.Rand, d *disk.Disk, count int, newest saved, found map[string]int) saved {
	t.Helper()
	room := (count/2 - 1) * d.Size()
	c := opened(t, d, 1, count)
	is(t, "opened", c, room, false, newest)
	if source.Intn(4) > 0 {
		d.Fail(source.Intn(30))
	}
	for range source.Intn(6) {
		content := letters(source.Intn(room+1), byte(source.Intn(100)))
		next := saved{content, newest.generation + 1}
		if c.Save([]byte(content)) == api.OK {
			newest = next
			is(t, "saved", c, room, false, newest)
			continue
		}
		is(t, "interrupted", c, room, true, newest)
		d.Crash(sample.Flags(source.Int(), d.Cached()))
		switch got, _ := holds(d, 1, count); got {
		case newest:
			found["before"]++
		case next:
			found["interrupted"]++
			newest = next
		default:
			t.Fatalf("the region holds %d bytes of the generation %d", len(got.content), got.generation)
		}
		return newest
	}
	d.Crash(sample.Flags(source.Int(), d.Cached()))
	return newest
}
