package journal

import (
	"plexus/api"
	"plexus/wire"
)

// encode returns the stream of a list of records.
func encode(records [][]byte) []byte {
	var w wire.Writer
	for _, record := range records {
		w.Bytes(record)
	}
	return w.Data()
}

// decode returns the records of a stream, or false if it is none.
func decode(stream []byte) ([][]byte, bool) {
	var records [][]byte
	r := wire.NewReader(stream)
	for r.Left() > 0 {
		record := r.Bytes()
		if r.Err() != api.OK {
			return nil, false
		}
		records = append(records, record)
	}
	return records, true
}

// encodedLength returns the length of the encoding of a record with this length.
func encodedLength(length int) int {
	var w wire.Writer
	w.Uint(uint64(length))
	return len(w.Data()) + length
}
