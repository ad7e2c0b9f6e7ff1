package journal

import (
	"plexus/api"
	"plexus/wire"
)

// mark is the text with which a head begins.
const mark = "journal"

// room returns the length of the area.
func (j *Journal) room() int { return (j.count - 1) * j.disk.Size() }

// needed returns how many sectors of the area have a byte of a stream with this length.
func (j *Journal) needed(length int) int {
	size := j.disk.Size()
	return (length + size - 1) / size
}

// sector returns the number of a sector of the area.
func (j *Journal) sector(index int) int { return j.first + 1 + index }

// load returns the stream of the list that the region holds, or false if it holds none.
func (j *Journal) load() ([]byte, bool) {
	content, _ := j.disk.Read(j.first)
	length, ok := streamLength(content)
	if !ok || length > uint64(j.room()) {
		return nil, false
	}
	stream := j.read(int(length))
	_, ok = decode(stream)
	return stream, ok
}

// read returns the first bytes of the area.
func (j *Journal) read(length int) []byte {
	b := make([]byte, length)
	for i := range j.needed(length) {
		content, _ := j.disk.Read(j.sector(i))
		copy(b[i*j.disk.Size():], content)
	}
	return b
}

// fill makes the area begin durably with a stream, of which it has the first kept bytes already. They do not change, so whatever survives of these writes, the region still holds the list that it held.
func (j *Journal) fill(stream []byte, kept int) bool {
	size := j.disk.Size()
	start := kept / size
	for i := range j.needed(len(stream)) - start {
		content := make([]byte, size)
		copy(content, stream[(start+i)*size:])
		if !j.check(j.disk.Write(j.sector(start+i), content) == api.OK) {
			return false
		}
	}
	return j.check(j.disk.Sync() == api.OK)
}

// commit ends an operation by which the list gets a stream that the area has durably: one write, so that the region holds the old list or the new one.
func (j *Journal) commit(stream []byte) api.Errno {
	content := make([]byte, j.disk.Size())
	copy(content, head(len(stream)))
	if !j.check(j.disk.Write(j.first, content) == api.OK && j.disk.Sync() == api.OK) {
		return api.ErrDown
	}
	j.stream = stream
	return api.OK
}

// head returns what a head has before its zeros, with a stream of this length.
func head(length int) []byte {
	var w wire.Writer
	w.Text(mark)
	w.Uint(uint64(length))
	return w.Data()
}

// streamLength returns the length of the stream according to a head, or false if the sector is no head.
func streamLength(sector []byte) (uint64, bool) {
	if zeros(sector) {
		return 0, true
	}
	r := wire.NewReader(sector)
	text, length := r.Text(), r.Uint()
	ok := r.Err() == api.OK && text == mark && zeros(sector[r.Offset():])
	return length, ok
}

// zeros reports whether all bytes are zero.
func zeros(b []byte) bool {
	for _, x := range b {
		if x != 0 {
			return false
		}
	}
	return true
}
