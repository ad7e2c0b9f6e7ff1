package disk_test

import (
	"bytes"
	"math/rand"
	"testing"

	"plexus/api"
	"plexus/sample"
)

// model is a disk by the definitions of the chapter: contents are found by a search in the cache.
type model struct {
	size      int
	durable   [][]byte
	cache     []entry
	off       bool
	countdown int // -1: none is set
}

// entry is a write in the cache.
type entry struct {
	sector  int
	content string
}

// newModel returns a disk of zeros.
func newModel(sectors, size int) *model {
	m := &model{size: size, countdown: -1}
	for range sectors {
		m.durable = append(m.durable, make([]byte, size))
	}
	return m
}

// content returns the content of a sector.
func (m *model) content(sector int) string {
	for i := len(m.cache) - 1; i >= 0; i-- {
		if m.cache[i].sector == sector {
			return m.cache[i].content
		}
	}
	return string(m.durable[sector])
}

// counted carries out an operation that the countdown counts.
func (m *model) counted(operation func()) api.Errno {
	if m.off {
		return api.ErrDown
	}
	if m.countdown == 0 {
		m.off = true
		return api.ErrDown
	}
	if m.countdown > 0 {
		m.countdown--
	}
	operation()
	return api.OK
}

// write is Write.
func (m *model) write(sector int, b []byte) api.Errno {
	if sector < 0 || sector >= len(m.durable) || len(b) != m.size {
		return api.ErrArgument
	}
	return m.counted(func() { m.cache = append(m.cache, entry{sector, string(b)}) })
}

// crash makes the writes durable that survive, one after the other.
func (m *model) crash(keep func(i int) bool) {
	for i, x := range m.cache {
		if keep(i) {
			m.durable[x.sector] = []byte(x.content)
		}
	}
	m.cache, m.off, m.countdown = nil, false, -1
}

// sync is Sync.
func (m *model) sync() api.Errno {
	return m.counted(func() {
		for sector := range m.durable {
			m.durable[sector] = []byte(m.content(sector))
		}
		m.cache = nil
	})
}

// fail is Fail.
func (m *model) fail(n int) {
	if !m.off {
		m.countdown = max(0, n)
	}
}

// P25.1 to P25.6: random operations, compared with the model.
func TestModel(t *testing.T) {
	source := rand.New(rand.NewSource(1))
	for range 600 {
		sectors, size := 1+source.Intn(5), 16+source.Intn(3)
		d, m := made(t, sectors, size), newModel(sectors, size)
		for step := range 200 {
			var got, want api.Errno
			switch kind := source.Intn(20); {
			case kind < 12:
				sector, b := source.Intn(sectors), make([]byte, size)
				source.Read(b)
				if source.Intn(8) == 0 {
					sector = source.Intn(sectors+4) - 2
				}
				if source.Intn(8) == 0 {
					b = b[:source.Intn(size)]
				}
				got, want = d.Write(sector, b), m.write(sector, b)
			case kind < 15:
				got, want = d.Sync(), m.sync()
			case kind < 17:
				n := source.Intn(14) - 2
				d.Fail(n)
				m.fail(n)
			default:
				keep := sample.Flags(source.Int(), source.Intn(12))
				d.Crash(keep)
				m.crash(func(i int) bool { return i < len(keep) && keep[i] })
			}
			if got != want {
				t.Fatalf("the step %d: %d instead of %d", step, got, want)
			}
			if d.Down() != m.off || d.Cached() != len(m.cache) || d.Sectors() != sectors || d.Size() != size {
				t.Fatalf("the step %d: down %t, %d cached instead of %t, %d", step, d.Down(), d.Cached(), m.off, len(m.cache))
			}
			for sector := range sectors {
				b, e := d.Read(sector)
				if m.off && (e != api.ErrDown || len(b) != 0) || !m.off && (e != api.OK || !bytes.Equal(b, []byte(m.content(sector)))) {
					t.Fatalf("the step %d: the sector %d is %x, %d", step, sector, b, e)
				}
			}
		}
	}
}

// P25.1 to P25.3: a disk with as many sectors as there may be, and with a long cache, answers soon.
func TestGreatDisk(t *testing.T) {
	const sectors = 65536
	d := made(t, sectors, 16)
	for round := range 3 {
		for i := range sectors {
			b := sectorOf(byte(i + round))
			if d.Write(i, b) != api.OK {
				t.Fatalf("Write of the sector %d", i)
			}
			if c, e := d.Read(i); e != api.OK || !bytes.Equal(b, c) {
				t.Fatalf("the sector %d: %x, %d", i, c, e)
			}
		}
		if d.Cached() != sectors || d.Sync() != api.OK {
			t.Fatalf("%d cached", d.Cached())
		}
	}
	writes(t, d, 0, 1, sectors-1, 1)
	d.Crash(nil)
	for i := range sectors {
		if c, e := d.Read(i); e != api.OK || !bytes.Equal(c, sectorOf(byte(i+2))) {
			t.Fatalf("the sector %d: %x, %d", i, c, e)
		}
	}
}
