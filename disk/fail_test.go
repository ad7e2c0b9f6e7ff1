package disk_test

import (
	"bytes"
	"math"
	"testing"

	"plexus/api"
	"plexus/disk"
	"plexus/sample"
)

// P25.4: the example 2, with the next operation a Write or a Sync.
func TestFailExample(t *testing.T) {
	for _, next := range []func(d *disk.Disk) api.Errno{
		func(d *disk.Disk) api.Errno { return d.Write(0, sectorOf(9)) },
		func(d *disk.Disk) api.Errno { return d.Sync() },
	} {
		d := made(t, 2, 16)
		writes(t, d, 0, 1, 1, 2)
		d.Sync()
		d.Fail(1)
		writes(t, d, 1, 3)
		if next(d) != api.ErrDown || !d.Down() {
			t.Error("the power is on")
		}
		if b, e := d.Read(0); e != api.ErrDown || len(b) != 0 {
			t.Errorf("Read: %x, %d", b, e)
		}
		d.Crash(nil)
		contents(t, "as at the last sync", d, 1, 2)
	}
}

// P25.4: so many operations succeed, and the next one does nothing.
func TestFail(t *testing.T) {
	for n := range 6 {
		for kinds := range 64 {
			d := made(t, 1, 16)
			d.Fail(n)
			cached := 0
			for i, sync := range sample.Flags(kinds, 6)[:n] {
				if sync {
					d.Sync()
					cached = 0
				} else {
					d.Write(0, sectorOf(byte(i+1)))
					cached++
				}
				if d.Down() {
					t.Fatalf("Fail(%d): down after %d operations", n, i+1)
				}
			}
			e := d.Sync()
			if kinds&1 == 1 {
				e = d.Write(0, sectorOf(99))
			}
			if e != api.ErrDown || !d.Down() || d.Cached() != cached {
				t.Errorf("Fail(%d): %d, down %t, %d instead of %d cached", n, e, d.Down(), d.Cached(), cached)
			}
		}
	}
}

// P25.4: a negative number is 0, and a great one is no reason to fail.
func TestFailOfExtremes(t *testing.T) {
	for _, n := range []int{0, -1, -2, math.MinInt} {
		d := made(t, 1, 16)
		d.Fail(n)
		if d.Down() {
			t.Errorf("Fail(%d): down before an operation", n)
		}
		if b, e := d.Read(0); e != api.OK || len(b) != 16 {
			t.Errorf("Fail(%d): Read returns %d", n, e)
		}
		if d.Sync() != api.ErrDown || !d.Down() {
			t.Errorf("Fail(%d): not down", n)
		}
	}
	d := made(t, 1, 16)
	d.Fail(math.MaxInt)
	for range 100 {
		writes(t, d, 0, 1)
	}
}

// P25.4: a countdown is replaced by the next one, greater or less.
func TestFailReplaces(t *testing.T) {
	for _, c := range [][3]int{{0, 2, 2}, {5, 1, 1}, {3, 3, 3}, {0, -4, 0}} {
		d := made(t, 1, 16)
		d.Fail(c[0])
		if c[0] > 0 {
			writes(t, d, 0, 1)
		}
		d.Fail(c[1])
		for range c[2] {
			writes(t, d, 0, 1)
		}
		if d.Sync() != api.ErrDown {
			t.Errorf("Fail(%d) behind Fail(%d)", c[1], c[0])
		}
	}
}

// P25.4: what returns ErrArgument, and Read, are not counted.
func TestNotCounted(t *testing.T) {
	d := made(t, 2, 16)
	d.Fail(1)
	for range 3 {
		if d.Write(2, sectorOf(1)) != api.ErrArgument || d.Write(0, nil) != api.ErrArgument {
			t.Error("not ErrArgument")
		}
		contents(t, "a new disk", d, 0, 0)
	}
	writes(t, d, 0, 1)
	if d.Write(-1, sectorOf(1)) != api.ErrArgument || d.Write(0, sectorOf(1)[:15]) != api.ErrArgument || d.Down() {
		t.Error("with the countdown 0")
	}
	if _, e := d.Read(1); e != api.OK || d.Sync() != api.ErrDown || !d.Down() {
		t.Error("the second operation")
	}
}

// P25.4 and P25.5: while the power is off a countdown can't be set, and after a crash none is set.
func TestFailWhileDown(t *testing.T) {
	d := made(t, 1, 16)
	d.Fail(0)
	d.Sync()
	d.Fail(1)
	d.Fail(0)
	if d.Sync() != api.ErrDown || !d.Down() {
		t.Error("the power is on")
	}
	d.Crash(nil)
	for range 5 {
		writes(t, d, 0, 1)
	}
	d.Fail(2)
	writes(t, d, 0, 1)
	d.Crash(nil)
	for range 5 {
		if d.Sync() != api.OK {
			t.Error("a crash leaves a countdown")
		}
	}
	d.Fail(1)
	if d.Sync() != api.OK || d.Sync() != api.ErrDown {
		t.Error("a countdown after a crash")
	}
}

// P25.6: while the power is off the cache stays as it is, and its writes may survive.
func TestCacheWhileDown(t *testing.T) {
	d := made(t, 2, 16)
	writes(t, d, 0, 1, 1, 2, 0, 3)
	d.Fail(0)
	for range 3 {
		if d.Write(1, sectorOf(9)) != api.ErrDown || d.Sync() != api.ErrDown || d.Cached() != 3 {
			t.Errorf("%d cached", d.Cached())
		}
	}
	if d.Sectors() != 2 || d.Size() != 16 {
		t.Errorf("%d sectors of %d bytes", d.Sectors(), d.Size())
	}
	d.Crash([]bool{false, true, true, true})
	contents(t, "crashed", d, 3, 2)
}

// The errors of Read and Write: the first one of the table is returned, and nothing else changes.
func TestErrors(t *testing.T) {
	for _, down := range []bool{false, true} {
		want := api.OK
		if down {
			want = api.ErrDown
		}
		for _, sector := range []int{-1, 0, 1, 2, 65536, math.MaxInt, math.MinInt} {
			for _, length := range []int{0, 1, 15, 16, 17, 32, 4096} {
				d := made(t, 2, 16)
				writes(t, d, 0, 1)
				if down {
					d.Fail(0)
					d.Sync()
				}
				wantRead, wantWrite := want, want
				if sector < 0 || sector > 1 {
					wantRead, wantWrite = api.ErrArgument, api.ErrArgument
				} else if length != 16 {
					wantWrite = api.ErrArgument
				}
				b, e := d.Read(sector)
				if e != wantRead || e != api.OK && len(b) != 0 {
					t.Errorf("Read(%d): %x, %d instead of %d", sector, b, e, wantRead)
				}
				if e := d.Write(sector, bytes.Repeat([]byte{5}, length)); e != wantWrite {
					t.Errorf("Write(%d) of %d bytes: %d instead of %d", sector, length, e, wantWrite)
				}
				if cached := d.Cached(); wantWrite == api.OK && cached != 2 || wantWrite != api.OK && cached != 1 {
					t.Errorf("Write(%d) of %d bytes: %d cached", sector, length, cached)
				}
			}
		}
	}
}

// P1: the zero Disk has no sectors; its functions do not panic.
func TestZeroDisk(t *testing.T) {
	var d disk.Disk
	if d.Sectors() != 0 || d.Size() != 0 || d.Cached() != 0 || d.Down() {
		t.Error("the zero Disk")
	}
	if b, e := d.Read(0); e != api.ErrArgument || len(b) != 0 || d.Write(0, nil) != api.ErrArgument {
		t.Error("a sector of the zero Disk")
	}
	d.Sync()
	d.Crash([]bool{true})
	d.Fail(0)
	if d.Sync() != api.ErrDown || !d.Down() {
		t.Error("Fail of the zero Disk")
	}
	d.Crash(nil)
}
