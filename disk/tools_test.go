package disk_test

import (
	"bytes"
	"testing"

	"plexus/api"
	"plexus/disk"
)

// made returns a new disk.
func made(t *testing.T, sectors, size int) *disk.Disk {
	t.Helper()
	d, e := disk.New(sectors, size)
	if e != api.OK || d == nil {
		t.Fatalf("New(%d, %d): %d", sectors, size, e)
	}
	return d
}

// sectorOf returns a sector of 16 bytes, all of them c.
func sectorOf(c byte) []byte { return bytes.Repeat([]byte{c}, 16) }

// writes writes sectors of 16 bytes: pairs of a sector and of the byte that fills it.
func writes(t *testing.T, d *disk.Disk, pairs ...int) {
	t.Helper()
	for i := 0; i < len(pairs); i += 2 {
		if e := d.Write(pairs[i], sectorOf(byte(pairs[i+1]))); e != api.OK {
			t.Fatalf("Write of the sector %d: %d", pairs[i], e)
		}
	}
}

// contents checks with which bytes the sectors from 0 on are filled.
func contents(t *testing.T, what string, d *disk.Disk, want ...byte) {
	t.Helper()
	for i, c := range want {
		if b, e := d.Read(i); e != api.OK || !bytes.Equal(b, sectorOf(c)) {
			t.Errorf("%s: the sector %d is %x, %d instead of %x", what, i, b, e, c)
		}
	}
}
