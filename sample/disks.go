package sample

import (
	"strings"

	"plexus/disk"
)

// Disk returns a disk of zeros.
func Disk(sectors, size int) *disk.Disk {
	d, _ := disk.New(sectors, size)
	return d
}

// Put writes a sector that begins with a text, and has zeros behind it.
func Put(d *disk.Disk, sector int, begin string) {
	b := make([]byte, d.Size())
	copy(b, begin)
	d.Write(sector, b)
}

// Sectors returns the contents of some sectors. Of one that can't be read it returns nothing.
func Sectors(d *disk.Disk, first, count int) string {
	var s strings.Builder
	for i := range count {
		b, _ := d.Read(first + i)
		s.Write(b)
	}
	return s.String()
}

// Flags returns a list of n bools: the bits of a number, the lowest first.
func Flags(bits, n int) []bool {
	list := make([]bool, n)
	for i := range list {
		list[i] = bits>>i&1 == 1
	}
	return list
}
