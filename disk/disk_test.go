package disk_test

import (
	"bytes"
	"math"
	"testing"

	"plexus/api"
	"plexus/disk"
	"plexus/sample"
)

// P25.1: the numbers of a disk, and which ones there are.
func TestNew(t *testing.T) {
	for _, c := range []struct {
		sectors, size int
		e             api.Errno
	}{
		{1, 16, api.OK}, {1, 4096, api.OK}, {65536, 16, api.OK}, {65536, 4096, api.OK}, {7, 17, api.OK}, {1000, 100, api.OK},
		{0, 16, api.ErrArgument}, {65537, 16, api.ErrArgument}, {1, 15, api.ErrArgument}, {1, 4097, api.ErrArgument},
		{-1, 16, api.ErrArgument}, {1, -16, api.ErrArgument}, {1, 0, api.ErrArgument}, {0, 0, api.ErrArgument},
		{math.MaxInt, math.MaxInt, api.ErrArgument}, {math.MinInt, math.MinInt, api.ErrArgument},
		{math.MaxInt, 16, api.ErrArgument}, {1, math.MaxInt, api.ErrArgument}, {1 << 32, 1 << 32, api.ErrArgument},
	} {
		d, e := disk.New(c.sectors, c.size)
		if e != c.e || (d != nil) != (e == api.OK) {
			t.Errorf("New(%d, %d): %d instead of %d", c.sectors, c.size, e, c.e)
		}
		if e == api.OK && (d.Sectors() != c.sectors || d.Size() != c.size) {
			t.Errorf("New(%d, %d): a disk of %d sectors of %d bytes", c.sectors, c.size, d.Sectors(), d.Size())
		}
	}
}

// P25.1: a new disk has zeros, an empty cache, power, and no countdown.
func TestNewIsEmpty(t *testing.T) {
	for _, size := range []int{16, 17, 4096} {
		d := made(t, 5, size)
		for i := range 5 {
			if b, e := d.Read(i); e != api.OK || !bytes.Equal(b, make([]byte, size)) {
				t.Errorf("the sector %d of %d bytes: %x, %d", i, size, b, e)
			}
		}
		if d.Cached() != 0 || d.Down() {
			t.Errorf("%d cached, down %t", d.Cached(), d.Down())
		}
		for range 1000 {
			if d.Write(1, make([]byte, size)) != api.OK || d.Sync() != api.OK {
				t.Fatal("the power goes off without a countdown")
			}
		}
	}
}

// P25.2 and P25.6: Read returns what was written last, and each write is in the cache.
func TestReadAndWrite(t *testing.T) {
	d := made(t, 3, 16)
	writes(t, d, 2, 7)
	contents(t, "a write", d, 0, 0, 7)
	writes(t, d, 0, 8, 2, 9, 2, 9)
	contents(t, "four writes", d, 8, 0, 9)
	if d.Cached() != 4 {
		t.Errorf("%d cached instead of 4", d.Cached())
	}
	d.Sync()
	contents(t, "a sync", d, 8, 0, 9)
	writes(t, d, 2, 0)
	contents(t, "a write of zeros", d, 8, 0, 0)
}

// P25.2: contents are copied when they are written and when they are read.
func TestCopies(t *testing.T) {
	d := made(t, 2, 16)
	b := sectorOf(1)
	d.Write(0, b)
	b[0] = 99
	for _, what := range []string{"the cache", "the disk"} {
		c, _ := d.Read(0)
		contents(t, what, d, 1, 0)
		c[1] = 98
		contents(t, what+", a result changed", d, 1, 0)
		zeros, _ := d.Read(1)
		zeros[0] = 97
		contents(t, what+", zeros changed", d, 1, 0)
		c = append(c[:4], 96)
		contents(t, what+", a result extended", d, 1, 0)
		d.Sync()
	}
	d.Write(0, b)
	b[0] = 95
	d.Crash([]bool{true})
	if c, _ := d.Read(0); c[0] != 99 || b[0] != 95 {
		t.Errorf("after a crash: %x, %x", c, b)
	}
}

// P25.2: the room behind a slice is not written to.
func TestNoRoomIsUsed(t *testing.T) {
	b := make([]byte, 32)
	d := made(t, 1, 16)
	if d.Write(0, b[:16]) != api.OK || d.Sync() != api.OK || !bytes.Equal(b, make([]byte, 32)) {
		t.Errorf("%x", b)
	}
	c, _ := d.Read(0)
	if len(c) != 16 {
		t.Errorf("a sector of %d bytes", len(c))
	}
}

// P25.3: what is synced survives each crash.
func TestSync(t *testing.T) {
	d := made(t, 3, 16)
	writes(t, d, 0, 1, 1, 2, 0, 3)
	if d.Sync() != api.OK || d.Cached() != 0 {
		t.Errorf("%d cached", d.Cached())
	}
	contents(t, "synced", d, 3, 2, 0)
	writes(t, d, 1, 4)
	d.Crash(nil)
	contents(t, "crashed", d, 3, 2, 0)
	if d.Sync() != api.OK {
		t.Error("a sync of nothing")
	}
	contents(t, "synced again", d, 3, 2, 0)
}

// P25.5: the example 1, and all writes of it.
func TestCrashExample(t *testing.T) {
	for _, c := range []struct {
		keep []bool
		want byte
	}{
		{[]bool{true, false}, 1}, {[]bool{false, true}, 2}, {[]bool{true, true}, 2}, {nil, 0}, {[]bool{}, 0},
		{[]bool{true}, 1}, {[]bool{false}, 0}, {[]bool{false, false, true, true}, 0}, {[]bool{true, false, true}, 1},
	} {
		d := made(t, 2, 16)
		writes(t, d, 0, 1, 0, 2)
		contents(t, "written", d, 2, 0)
		if d.Cached() != 2 {
			t.Errorf("%d cached", d.Cached())
		}
		d.Crash(c.keep)
		contents(t, "crashed", d, c.want, 0)
		if d.Cached() != 0 || d.Down() {
			t.Errorf("after a crash: %d cached, down %t", d.Cached(), d.Down())
		}
	}
}

// P25.5: all lists of writes to two sectors with all choices of those that survive, with power and without.
func TestCrash(t *testing.T) {
	for n := range 6 {
		for targets := range 1 << n {
			for length := range n + 3 {
				for bits := range 1 << length {
					crash(t, sample.Flags(targets, n), sample.Flags(bits, length))
				}
			}
		}
	}
}

// crash writes to the sector 1 where toOne has an element that is true, and to the sector 0 otherwise, and lets the disk crash.
func crash(t *testing.T, toOne, keep []bool) {
	t.Helper()
	for _, off := range []bool{false, true} {
		d := made(t, 2, 16)
		writes(t, d, 0, 100, 1, 101)
		d.Sync()
		want := []byte{100, 101}
		for i, one := range toOne {
			sector := 0
			if one {
				sector = 1
			}
			writes(t, d, sector, i+1)
			if i < len(keep) && keep[i] {
				want[sector] = byte(i + 1)
			}
		}
		if off {
			d.Fail(0)
			d.Sync()
		}
		d.Crash(keep)
		contents(t, "crashed", d, want...)
		d.Crash(sample.Flags(255, 8))
		contents(t, "crashed again", d, want...)
	}
}

// P25.5: the list of what survives is neither changed nor kept.
func TestKeepIsNotKept(t *testing.T) {
	d := made(t, 1, 16)
	writes(t, d, 0, 1)
	keep := []bool{false, true}
	d.Crash(keep)
	keep[0] = true
	writes(t, d, 0, 2)
	contents(t, "written", d, 2)
	d.Crash(keep[1:1])
	contents(t, "crashed", d, 0)
	if !keep[0] || !keep[1] {
		t.Error("keep is changed")
	}
}
