package checkpoint

import (
	"bytes"

	"plexus/api"
	"plexus/disk"
)

// slot is one of the two parts of a region: a header, and the body behind it.
type slot struct {
	disk  *disk.Disk
	first int
	count int
	size  int // of a sector
}

// room returns the length of the body.
func (s slot) room() int { return (s.count - 1) * s.size }

// load returns the checkpoint that the slot holds and its generation, or nothing and 0.
func (s slot) load() ([]byte, int64) {
	found := s.read(0)
	generation, length := parse(found)
	if generation < 1 || generation > maxGeneration || length > uint64(s.room()) {
		return nil, 0
	}
	content := s.body(int(length))
	if !bytes.Equal(found, s.sector(encode(content, int64(generation)))) {
		return nil, 0
	}
	return content, int64(generation)
}

// body returns the first bytes of the body.
func (s slot) body(length int) []byte {
	b := make([]byte, length)
	for at := 0; at < length; at += s.size {
		copy(b[at:], s.read(1+at/s.size))
	}
	return b
}

// save makes the slot hold a checkpoint, and reports whether the disk has done it. In between the slot holds none, since its old header may not stand before parts of the new body.
func (s slot) save(b []byte, generation int64) bool {
	return s.write(0, nil) && s.sync() && s.fill(b) && s.sync() && s.write(0, encode(b, generation)) && s.sync()
}

// fill writes the sectors of the body that b needs.
func (s slot) fill(b []byte) bool {
	for at := 0; at < len(b); at += s.size {
		if !s.write(1+at/s.size, b[at:]) {
			return false
		}
	}
	return true
}

// read returns a sector of the slot, whose header has the index 0.
func (s slot) read(index int) []byte {
	b, _ := s.disk.Read(s.first + index)
	return b
}

// write writes a sector of the slot, with as much of b as fits in, and reports whether the disk has done it.
func (s slot) write(index int, b []byte) bool {
	return s.disk.Write(s.first+index, s.sector(b)) == api.OK
}

// sync reports whether the disk has synced.
func (s slot) sync() bool { return s.disk.Sync() == api.OK }

// sector returns a sector with as much of b as fits in, filled up with zeros.
func (s slot) sector(b []byte) []byte {
	content := make([]byte, s.size)
	copy(content, b)
	return content
}
