package checkpoint_test

import (
	"math"
	"strings"
	"testing"

	"plexus/api"
	"plexus/checkpoint"
	"plexus/disk"
	"plexus/sample"
)

// The examples 1 and 2.
func TestExamples(t *testing.T) {
	d := sample.Disk(8, 64)
	c := opened(t, d, 0, 8)
	is(t, "a new store", c, 192, false, saved{})
	one, two := letters(100, 'a'), letters(192, 'A')
	d.Fail(7)
	if e := c.Save([]byte(one)); e != api.OK || d.Sync() != api.ErrDown {
		t.Errorf("Save: %d, or not seven operations", e)
	}
	d.Crash(nil)
	c = opened(t, d, 0, 8)
	is(t, "saved", c, 192, false, saved{one, 1})
	if text := sample.Sectors(d, 0, 8); text != padded(header(one, 1), 64)+padded(one, 64*7) {
		t.Errorf("the disk has %x", text)
	}
	if e := c.Save([]byte(two)); e != api.OK {
		t.Errorf("Save: %d", e)
	}
	is(t, "saved again", c, 192, false, saved{two, 2})
	if text := sample.Sectors(d, 4, 4); text != padded(header(two, 2), 64)+two {
		t.Errorf("the slot 1 has %x", text)
	}
}

// P27.2: the room of regions of all lengths, as far as they are read and written.
func TestRoom(t *testing.T) {
	for _, size := range []int{64, 65, 4096} {
		for count := 4; count < 12; count++ {
			room := (count/2 - 1) * size
			d := sample.Disk(12, size)
			c := opened(t, d, 0, count)
			is(t, "a new store", c, room, false, saved{})
			for generation := int64(1); generation < 4; generation++ {
				content := letters(room, byte(generation))
				if e := c.Save([]byte(content + "x")); e != api.ErrLimit {
					t.Errorf("Save of %d bytes: %d", room+1, e)
				}
				if e := c.Save([]byte(content)); e != api.OK {
					t.Errorf("Save of %d bytes: %d", room, e)
				}
				is(t, "saved", c, room, false, saved{content, generation})
				is(t, "opened again", opened(t, d, 0, count), room, false, saved{content, generation})
			}
			if text := sample.Sectors(d, 0, 12)[count/2*2*size:]; strings.Trim(text, "\x00") != "" {
				t.Errorf("something is written behind the slots of %d sectors", count)
			}
		}
	}
}

// P27.3 and P27.4: contents of all lengths, one behind the other, are found again.
func TestSave(t *testing.T) {
	d := laid(9, 64, 0, "")
	c := opened(t, d, 1, 7)
	generation := int64(0)
	for _, step := range []int{1, 7, 64, 128} {
		for length := 0; length <= 128; length += step {
			generation++
			want := saved{letters(length, byte(generation)), generation}
			if e := c.Save([]byte(want.content)); e != api.OK {
				t.Fatalf("Save of %d bytes: %d", length, e)
			}
			is(t, "saved", c, 128, false, want)
			if got, slot := holds(d, 1, 7); got != want || slot != int(generation-1)%2 {
				t.Fatalf("the region holds %d bytes of the generation %d in the slot %d", len(got.content), got.generation, slot)
			}
			is(t, "opened again", opened(t, d, 1, 7), 128, false, want)
		}
	}
	junk := strings.Repeat("\xa5", 64)
	if sample.Sectors(d, 0, 1) != junk || sample.Sectors(d, 7, 2) != junk+junk {
		t.Error("a sector beside the slots was written")
	}
}

// P27.3: an empty checkpoint is one, and nil is the empty one.
func TestSaveNothing(t *testing.T) {
	for _, none := range [][]byte{nil, {}, make([]byte, 0, 10)} {
		d := laid(4, 64, 0, "")
		c := opened(t, d, 0, 4)
		for generation := int64(1); generation < 4; generation++ {
			if e := c.Save(none); e != api.OK {
				t.Errorf("Save: %d", e)
			}
			is(t, "saved", c, 64, false, saved{"", generation})
			is(t, "opened again", opened(t, d, 0, 4), 64, false, saved{"", generation})
		}
	}
}

// P27.4: the greatest generation is the last one, and what is refused carries out no operation.
func TestLimit(t *testing.T) {
	for slot := range 2 {
		d := laid(8, 64, slot*4, padded(header("abc", greatest-1), 64)+"abc")
		c := opened(t, d, 0, 8)
		refused(t, d, c, saved{"abc", greatest - 1}, 193, 194, 1000, 1<<20)
		if e := c.Save([]byte("last")); e != api.OK {
			t.Errorf("Save: %d", e)
		}
		refused(t, d, c, saved{"last", greatest}, 0, 1, 192, 193)
		is(t, "opened again", opened(t, d, 0, 8), 192, false, saved{"last", greatest})
		refused(t, d, opened(t, d, 0, 8), saved{"last", greatest}, 0, 1, 192, 193)
	}
}

// refused checks that contents of these lengths are not saved, without an operation on the disk.
func refused(t *testing.T, d *disk.Disk, c *checkpoint.Store, want saved, lengths ...int) {
	t.Helper()
	before := sample.Sectors(d, 0, d.Sectors())
	for _, length := range lengths {
		d.Fail(0)
		if e := c.Save(make([]byte, length)); e != api.ErrLimit {
			t.Errorf("Save of %d bytes: %d", length, e)
		}
		is(t, "refused", c, (d.Sectors()/2-1)*d.Size(), false, want)
		if d.Down() || d.Cached() != 0 || sample.Sectors(d, 0, d.Sectors()) != before {
			t.Errorf("Save of %d bytes carries out operations", length)
		}
	}
	d.Fail(math.MaxInt)
}

// Save: what is too long is refused also without power, since no operation finds that out.
func TestLimitWithoutPower(t *testing.T) {
	d := sample.Disk(8, 64)
	c := opened(t, d, 0, 8)
	turnOff(d)
	if e := c.Save(make([]byte, 193)); e != api.ErrLimit || c.Down() {
		t.Errorf("Save of 193 bytes: %d", e)
	}
	if e := c.Save(make([]byte, 192)); e != api.ErrDown || !c.Down() {
		t.Errorf("Save of 192 bytes: %d", e)
	}
	if e := c.Save(make([]byte, 193)); e != api.ErrDown {
		t.Errorf("Save of 193 bytes by a store that is down: %d", e)
	}
}

// P27.3 and the rules: contents are copied when they are saved and when they are loaded, and an argument is not changed.
func TestCopies(t *testing.T) {
	d := sample.Disk(8, 64)
	c := opened(t, d, 0, 8)
	b := []byte(letters(110, 'a'))
	if e := c.Save(b[:100]); e != api.OK || !sameBytes(b, letters(110, 'a')) {
		t.Errorf("Save: %d, %q", e, b)
	}
	b[0], b[99] = 1, 1
	for _, store := range []*checkpoint.Store{c, opened(t, d, 0, 8)} {
		one, _ := store.Load()
		two, _ := store.Load()
		if !sample.Separate(one, two, b) {
			t.Error("contents share memory")
		}
		one[0], two[99] = 2, 2
		_ = append(one[:50], 3)
		is(t, "changed", store, 192, false, saved{letters(100, 'a'), 1})
	}
}

// P27.1 to P27.4: a region as great as there is, and stores on several regions of one disk.
func TestGreatRegion(t *testing.T) {
	d := sample.Disk(65536, 64)
	c := opened(t, d, 0, 65536)
	content := letters(32767*64, 0)
	for generation := int64(1); generation < 3; generation++ {
		if e := c.Save([]byte(content)); e != api.OK {
			t.Fatalf("Save: %d", e)
		}
		is(t, "opened again", opened(t, d, 0, 65536), len(content), false, saved{content, generation})
	}
	d = sample.Disk(9, 64)
	one, two := opened(t, d, 0, 4), opened(t, d, 4, 5)
	if one.Save([]byte("a")) != api.OK || two.Save([]byte("b")) != api.OK || one.Save([]byte("c")) != api.OK {
		t.Error("Save")
	}
	is(t, "the first region", opened(t, d, 0, 4), 64, false, saved{"c", 2})
	is(t, "the second region", opened(t, d, 4, 5), 64, false, saved{"b", 1})
}

// P1: the zero Store has no room; its functions do not panic.
func TestZeroStore(t *testing.T) {
	var c checkpoint.Store
	if c.Save(nil) == api.OK || c.Save([]byte("x")) == api.OK {
		t.Error("the zero Store saves")
	}
	content, generation := c.Load()
	if len(content) != 0 || generation != 0 || c.Room() != 0 {
		t.Error("the zero Store")
	}
	c.Down()
	if s, e := checkpoint.Open(new(disk.Disk), 0, 4); e != api.ErrArgument || s != nil {
		t.Errorf("Open on the zero Disk: %d", e)
	}
}
