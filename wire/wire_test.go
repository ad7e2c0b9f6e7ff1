package wire

import (
	"bytes"
	"math"
	"math/bits"
	"math/rand"
	"testing"

	"plexus/api"
)

// uints are numbers at the borders of the groups, with their encodings.
var uints = []struct {
	n    uint64
	data string
}{
	{0, "\x00"}, {1, "\x01"}, {126, "\x7e"}, {127, "\x7f"},
	{128, "\x80\x01"}, {129, "\x81\x01"}, {300, "\xac\x02"}, {16383, "\xff\x7f"},
	{16384, "\x80\x80\x01"}, {1<<21 - 1, "\xff\xff\x7f"}, {1 << 21, "\x80\x80\x80\x01"},
	{1 << 32, "\x80\x80\x80\x80\x10"},
	{1<<63 - 1, "\xff\xff\xff\xff\xff\xff\xff\xff\x7f"},
	{1 << 63, "\x80\x80\x80\x80\x80\x80\x80\x80\x80\x01"},
	{math.MaxUint64, "\xff\xff\xff\xff\xff\xff\xff\xff\xff\x01"},
}

// ints are numbers with sign, with their encodings.
var ints = []struct {
	n    int64
	data string
}{
	{0, "\x00"}, {-1, "\x01"}, {1, "\x02"}, {-2, "\x03"}, {2, "\x04"},
	{63, "\x7e"}, {-64, "\x7f"}, {64, "\x80\x01"}, {-65, "\x81\x01"},
	{math.MaxInt64, "\xfe\xff\xff\xff\xff\xff\xff\xff\xff\x01"},
	{math.MinInt64, "\xff\xff\xff\xff\xff\xff\xff\xff\xff\x01"},
}

// noUints are byte strings with which no number begins.
var noUints = []string{
	"", "\x80", "\xff", "\xff\xff", // a group is lacking
	"\x80\x00", "\xff\x00", "\x80\x80\x00", "\xff\xff\xff\x00", // a superfluous group
	"\x80\x00\x01", "\xff\xff\xff\xff\xff\xff\xff\xff\xff\x00",
	"\xff\xff\xff\xff\xff\xff\xff\xff\xff\x02", "\x80\x80\x80\x80\x80\x80\x80\x80\x80\x02", // 65 bits
	"\x80\x80\x80\x80\x80\x80\x80\x80\x80\x03", "\xff\xff\xff\xff\xff\xff\xff\xff\xff\x7f",
	"\x80\x80\x80\x80\x80\x80\x80\x80\x80\x80\x01", "\xff\xff\xff\xff\xff\xff\xff\xff\xff\xff\x01", // eleven groups
	"\xff\xff\xff\xff\xff\xff\xff\xff\xff\x81\x00",
}

// reads are the reads of all types, each with what it returns for nothing.
var reads = []struct {
	name string
	zero func(r *Reader) bool // reads, and reports whether the result is the zero value
}{
	{"Uint", func(r *Reader) bool { return r.Uint() == 0 }},
	{"Int", func(r *Reader) bool { return r.Int() == 0 }},
	{"Bool", func(r *Reader) bool { return !r.Bool() }},
	{"Bytes", func(r *Reader) bool { return len(r.Bytes()) == 0 }},
	{"Text", func(r *Reader) bool { return r.Text() == "" }},
	{"Count", func(r *Reader) bool { return r.Count() == 0 }},
}

// checkState compares what a Reader tells of itself.
func checkState(t *testing.T, what string, r *Reader, e api.Errno, offset, left int) {
	t.Helper()
	if r.Err() != e || r.Offset() != offset || r.Left() != left {
		t.Errorf("%s: error %d, offset %d, left %d instead of %d, %d, %d", what, r.Err(), r.Offset(), r.Left(), e, offset, left)
	}
}

// P1.1: the zero Writer is empty.
func TestWriterIsEmpty(t *testing.T) {
	var w Writer
	if len(w.Data()) != 0 {
		t.Errorf("Data of the zero Writer: %x", w.Data())
	}
}

// P1.1: the encodings of the items.
func TestWriteUint(t *testing.T) {
	for _, c := range uints {
		var w Writer
		w.Uint(c.n)
		if string(w.Data()) != c.data {
			t.Errorf("Uint(%d): %x instead of %x", c.n, w.Data(), c.data)
		}
	}
}

func TestWriteInt(t *testing.T) {
	for _, c := range ints {
		var w Writer
		w.Int(c.n)
		if string(w.Data()) != c.data {
			t.Errorf("Int(%d): %x instead of %x", c.n, w.Data(), c.data)
		}
	}
}

func TestWriteBool(t *testing.T) {
	var w Writer
	w.Bool(false)
	w.Bool(true)
	if string(w.Data()) != "\x00\x01" {
		t.Errorf("Bool: %x", w.Data())
	}
}

func TestWriteStrings(t *testing.T) {
	long := string(bytes.Repeat([]byte{0xee}, 128))
	for _, c := range []struct{ s, data string }{
		{"", "\x00"}, {"ab", "\x02ab"}, {"\x00", "\x01\x00"}, {"\xff\x80", "\x02\xff\x80"},
		{long[:127], "\x7f" + long[:127]}, {long, "\x80\x01" + long},
	} {
		var text, bin Writer
		text.Text(c.s)
		bin.Bytes([]byte(c.s))
		if string(text.Data()) != c.data || string(bin.Data()) != c.data {
			t.Errorf("%x: Text %x, Bytes %x instead of %x", c.s, text.Data(), bin.Data(), c.data)
		}
	}
	var w Writer
	w.Bytes(nil)
	if string(w.Data()) != "\x00" {
		t.Errorf("Bytes(nil): %x", w.Data())
	}
}

// P1.1: an item is appended behind those before it.
func TestWriterAppends(t *testing.T) {
	var w Writer
	want := []byte{}
	for i := range 1000 {
		w.Uint(uint64(i % 100))
		want = append(want, byte(i%100))
		if !bytes.Equal(w.Data(), want) {
			t.Fatalf("after %d items: %x", i+1, w.Data())
		}
	}
}

// P1.1 and the rules: Data is a new slice, and Bytes keeps no reference to its argument.
func TestWriterSharesNothing(t *testing.T) {
	var w Writer
	b := []byte{5, 6}
	w.Bytes(b)
	b[0] = 9
	first, second := w.Data(), w.Data()
	first[1] = 8
	_ = append(first[:1], 7, 7)
	if string(second) != "\x02\x05\x06" || string(w.Data()) != "\x02\x05\x06" {
		t.Errorf("Data: %x, %x", second, w.Data())
	}
	w.Bool(true)
	if string(second) != "\x02\x05\x06" || string(w.Data()) != "\x02\x05\x06\x01" {
		t.Errorf("Data: %x, %x", second, w.Data())
	}
	_ = append(second, 4)
	if string(w.Data()) != "\x02\x05\x06\x01" {
		t.Errorf("Data after an append to a result: %x", w.Data())
	}
}

// P1.2: the items are read, with bytes behind them or without.
func TestReadUint(t *testing.T) {
	for _, c := range uints {
		for _, rest := range []string{"", "\x00", "\x80"} {
			r := NewReader([]byte(c.data + rest))
			if n := r.Uint(); n != c.n {
				t.Errorf("Uint of %x: %d instead of %d", c.data, n, c.n)
			}
			checkState(t, "Uint", r, api.OK, len(c.data), len(rest))
		}
	}
}

func TestReadInt(t *testing.T) {
	for _, c := range ints {
		r := NewReader([]byte(c.data + "\x01"))
		if n := r.Int(); n != c.n {
			t.Errorf("Int of %x: %d instead of %d", c.data, n, c.n)
		}
		checkState(t, "Int", r, api.OK, len(c.data), 1)
	}
}

func TestReadBool(t *testing.T) {
	r := NewReader([]byte{1, 0, 1})
	if !r.Bool() || r.Bool() || !r.Bool() {
		t.Error("Bool")
	}
	checkState(t, "Bool", r, api.OK, 3, 0)
	for b := 2; b < 256; b++ {
		r := NewReader([]byte{byte(b), 0, 1})
		if r.Bool() {
			t.Errorf("Bool of %x is true", b)
		}
		checkState(t, "a byte that is no Bool", r, api.ErrSyntax, 0, 3)
	}
	// The example 2.
	r = NewReader([]byte{1, 2})
	if !r.Bool() || r.Bool() {
		t.Error("Bool of 01 02")
	}
	checkState(t, "01 02", r, api.ErrSyntax, 1, 1)
}

func TestReadStrings(t *testing.T) {
	long := string(bytes.Repeat([]byte{0xee}, 128))
	for _, c := range []struct{ data, want string }{
		{"\x00", ""}, {"\x02ab", "ab"}, {"\x01\x00", "\x00"}, {"\x02\xff\x80", "\xff\x80"}, {"\x80\x01" + long, long},
	} {
		for _, rest := range []string{"", "x"} {
			text, bin := NewReader([]byte(c.data+rest)), NewReader([]byte(c.data+rest))
			if s := text.Text(); s != c.want {
				t.Errorf("Text of %x: %x", c.data, s)
			}
			if b := bin.Bytes(); string(b) != c.want {
				t.Errorf("Bytes of %x: %x", c.data, b)
			}
			checkState(t, "Text", text, api.OK, len(c.data), len(rest))
			checkState(t, "Bytes", bin, api.OK, len(c.data), len(rest))
		}
	}
}

// P1.2: a read fails where no encoding of the item begins or where it does not lie within the bytes.
func TestReadNoNumber(t *testing.T) {
	for _, s := range noUints {
		for _, read := range reads {
			r := NewReader([]byte("\x01" + s))
			r.Uint()
			if !read.zero(r) {
				t.Errorf("%s of %x has a result", read.name, s)
			}
			checkState(t, read.name, r, api.ErrSyntax, 1, len(s))
		}
	}
}

func TestReadShortString(t *testing.T) {
	for _, s := range []string{
		"\x01", "\x02a", "\x7fabc", "\x80\x01", "\x80\x01a",
		"\xff\xff\xff\xff\x07aa",                     // 2^31 - 1
		"\xff\xff\xff\xff\xff\xff\xff\xff\x7fa",      // 2^63 - 1
		"\x80\x80\x80\x80\x80\x80\x80\x80\x80\x01a",  // 2^63
		"\xff\xff\xff\xff\xff\xff\xff\xff\xff\x01aa", // 2^64 - 1
		"\xf6\xff\xff\xff\xff\xff\xff\xff\xff\x01a",  // 2^64 - 10: the end would be in front of the length
	} {
		for _, read := range reads[3:] {
			r := NewReader([]byte(s))
			if !read.zero(r) {
				t.Errorf("%s of %x has a result", read.name, s)
			}
			checkState(t, read.name, r, api.ErrSyntax, 0, len(s))
		}
	}
}

// P1.2: once there is an error, reads return zero values and change nothing.
func TestReadAfterError(t *testing.T) {
	for _, read := range reads {
		r := NewReader([]byte("\x01\x02\x01\x01\x01"))
		r.Bool()
		r.Bool()
		if !read.zero(r) {
			t.Errorf("%s returns a value after an error", read.name)
		}
		checkState(t, read.name, r, api.ErrSyntax, 1, 4)
		r.Fail()
		checkState(t, read.name+", Fail", r, api.ErrSyntax, 1, 4)
		if r.End() != api.ErrSyntax {
			t.Errorf("End is %d", r.End())
		}
	}
}

// P1.2 and the rules: a Reader has a copy of its bytes, and a byte string is a new slice.
func TestReaderSharesNothing(t *testing.T) {
	b := []byte{2, 5, 6, 2, 7, 8}
	r := NewReader(b)
	b[1], b[4] = 99, 99
	first := r.Bytes()
	if string(first) != "\x05\x06" {
		t.Errorf("the Reader has no copy: %x", first)
	}
	first[0] = 98
	_ = append(first, 97, 97, 97)
	if second := r.Bytes(); string(second) != "\x07\x08" {
		t.Errorf("the result shares memory with the Reader: %x", second)
	}
	if !bytes.Equal(b, []byte{2, 99, 6, 2, 99, 8}) {
		t.Errorf("the argument was modified: %x", b)
	}
}

// P1.2: the offset is 0 and the error is OK at first, also for the zero Reader and for no bytes.
func TestReaderAtFirst(t *testing.T) {
	checkState(t, "no bytes", NewReader(nil), api.OK, 0, 0)
	checkState(t, "bytes", NewReader([]byte{1, 2}), api.OK, 0, 2)
	for _, read := range reads {
		r := &Reader{}
		if r.End() != api.OK || !read.zero(r) {
			t.Errorf("%s of the zero Reader", read.name)
		}
		checkState(t, read.name, r, api.ErrSyntax, 0, 0)
	}
}

// P1.3: a count is at most the number of bytes that follow it.
func TestReadCount(t *testing.T) {
	for _, c := range []struct {
		data string
		n    int
		e    api.Errno
	}{
		{"\x00", 0, api.OK}, {"\x00\x05", 0, api.OK}, {"\x01\x00", 1, api.OK}, {"\x02\x00\x00", 2, api.OK}, {"\x02\x00\x00\x00", 2, api.OK},
		{"\x01", 0, api.ErrSyntax}, {"\x02\x00", 0, api.ErrSyntax}, {"\x03\x00\x00", 0, api.ErrSyntax}, {"\x80\x01", 0, api.ErrSyntax},
		{"\x80\x01" + string(make([]byte, 127)), 0, api.ErrSyntax}, {"\x80\x01" + string(make([]byte, 128)), 128, api.OK},
	} {
		r := NewReader([]byte(c.data))
		if n := r.Count(); n != c.n || r.Err() != c.e {
			t.Errorf("Count of %x: %d, %d", c.data, n, r.Err())
		}
		if c.e != api.OK && r.Offset() != 0 {
			t.Errorf("Count of %x fails at %d", c.data, r.Offset())
		}
	}
	r := NewReader([]byte("\x00\x02\x02\x02\x02"))
	r.Bool()
	if n := r.Count(); n != 2 {
		t.Errorf("Count behind another item: %d", n)
	}
	checkState(t, "Count", r, api.OK, 2, 3)
	r.Count()
	if n := r.Count(); n != 0 {
		t.Errorf("Count of the last byte but one: %d", n)
	}
	checkState(t, "Count", r, api.ErrSyntax, 3, 2)
}

// P1.4: Fail goes back to the item that was read last.
func TestFail(t *testing.T) {
	r := NewReader([]byte{1, 2})
	r.Fail()
	checkState(t, "Fail without a read", r, api.ErrSyntax, 0, 2)
	for i, read := range reads {
		item := []string{"\x80\x01", "\x80\x01", "\x01", "\x02ab", "\x02ab", "\x01"}[i]
		r := NewReader([]byte("\x02ab" + item + "\x00\x00"))
		r.Text()
		read.zero(r)
		checkState(t, read.name, r, api.OK, 3+len(item), 2)
		r.Fail()
		checkState(t, read.name+", Fail", r, api.ErrSyntax, 3, len(item)+2)
		r.Fail()
		checkState(t, read.name+", Fail, Fail", r, api.ErrSyntax, 3, len(item)+2)
		if r.Text() != "" || r.Uint() != 0 {
			t.Error("a read after Fail has a result")
		}
		checkState(t, read.name+", Fail, reads", r, api.ErrSyntax, 3, len(item)+2)
	}
}

// P1.5: End asks for the end, and records nothing.
func TestEnd(t *testing.T) {
	r := NewReader([]byte{3, 4})
	if r.End() != api.ErrSyntax {
		t.Errorf("End with two bytes left: %d", r.End())
	}
	checkState(t, "End", r, api.OK, 0, 2)
	if r.Uint() != 3 || r.End() != api.ErrSyntax || r.Uint() != 4 || r.End() != api.OK {
		t.Errorf("End after reads: %d", r.End())
	}
	checkState(t, "End", r, api.OK, 2, 0)
	r.Fail()
	if r.End() != api.ErrSyntax {
		t.Errorf("End after Fail: %d", r.End())
	}
	r = NewReader(nil)
	r.Uint()
	if r.Left() != 0 || r.End() != api.ErrSyntax {
		t.Errorf("End after a failed read at the end: %d", r.End())
	}
}

// item is a value of one of the types that are appended.
type item struct {
	kind int
	n    uint64
	data []byte
}

// randomItem returns an item whose numbers have all lengths.
func randomItem(source *rand.Rand) item {
	data := make([]byte, source.Intn(4)*source.Intn(60))
	source.Read(data)
	return item{source.Intn(5), source.Uint64() >> source.Intn(64), data}
}

func write(w *Writer, x item) {
	switch x.kind {
	case 0:
		w.Uint(x.n)
	case 1:
		w.Int(int64(x.n))
	case 2:
		w.Bool(x.n&1 == 1)
	case 3:
		w.Bytes(x.data)
	case 4:
		w.Text(string(x.data))
	}
}

// readBack reports whether the next item is x.
func readBack(r *Reader, x item) bool {
	switch x.kind {
	case 0:
		return r.Uint() == x.n
	case 1:
		return r.Int() == int64(x.n)
	case 2:
		return r.Bool() == (x.n&1 == 1)
	case 3:
		return bytes.Equal(r.Bytes(), x.data)
	}
	return r.Text() == string(x.data)
}

// P1.6: what was appended is read back in the same order.
func TestRoundTrip(t *testing.T) {
	source := rand.New(rand.NewSource(1))
	for range 300 {
		var w Writer
		items := make([]item, source.Intn(40))
		for i := range items {
			items[i] = randomItem(source)
			write(&w, items[i])
		}
		r := NewReader(w.Data())
		for i, x := range items {
			if !readBack(r, x) {
				t.Fatalf("item %d, %v, is not read back", i, x)
			}
		}
		if r.End() != api.OK {
			t.Fatalf("End: %d", r.End())
		}
	}
}

// checkCanonical reads an item of each type, and compares the bytes that were read with the encoding of the result.
func checkCanonical(t *testing.T, data []byte) {
	t.Helper()
	for kind, again := range []func(r *Reader, w *Writer){
		func(r *Reader, w *Writer) { w.Uint(r.Uint()) },
		func(r *Reader, w *Writer) { w.Int(r.Int()) },
		func(r *Reader, w *Writer) { w.Bool(r.Bool()) },
		func(r *Reader, w *Writer) { w.Bytes(r.Bytes()) },
		func(r *Reader, w *Writer) { w.Text(r.Text()) },
		func(r *Reader, w *Writer) { w.Uint(uint64(r.Count())) },
	} {
		r, w := NewReader(data), &Writer{}
		again(r, w)
		if r.Err() == api.OK && !bytes.Equal(w.Data(), data[:r.Offset()]) {
			t.Errorf("%s of %x has the encoding %x", reads[kind].name, data, w.Data())
		}
		if r.Err() != api.OK && r.Offset() != 0 {
			t.Errorf("%s of %x fails at %d", reads[kind].name, data, r.Offset())
		}
		if r.Offset()+r.Left() != len(data) {
			t.Errorf("%s of %x: Offset %d, Left %d", reads[kind].name, data, r.Offset(), r.Left())
		}
	}
}

// P1.6: bytes that are read as an item are the encoding of this item.
func TestCanonical(t *testing.T) {
	checkCanonical(t, nil)
	for a := range 256 {
		checkCanonical(t, []byte{byte(a)})
		for b := range 256 {
			checkCanonical(t, []byte{byte(a), byte(b)})
		}
	}
	source := rand.New(rand.NewSource(2))
	for range 20000 {
		data := make([]byte, source.Intn(14))
		for i := range data {
			data[i] = []byte{0, 1, 2, 3, 0x7f, 0x80, 0x81, 0xff}[source.Intn(8)]
			if source.Intn(3) > 0 {
				data[i] |= 0x80
			}
		}
		checkCanonical(t, data)
	}
}

// P1.6: a Uint has as many bytes as it has groups of seven bits, at least one.
func TestLengthOfUint(t *testing.T) {
	for shift := range 64 {
		for _, n := range []uint64{1 << shift, 1<<shift - 1, 1<<shift + 1, math.MaxUint64 >> shift} {
			var w Writer
			w.Uint(n)
			if want := max(1, (bits.Len64(n)+6)/7); len(w.Data()) != want {
				t.Errorf("Uint(%d) has %d bytes instead of %d", n, len(w.Data()), want)
			}
		}
	}
}

// No encoding of an item is a proper prefix of the encoding of another item of its type: nothing but the whole encoding is read.
func TestNoPrefix(t *testing.T) {
	source := rand.New(rand.NewSource(3))
	for range 500 {
		var w Writer
		x := randomItem(source)
		write(&w, x)
		data := w.Data()
		for n := range len(data) {
			r := NewReader(data[:n])
			readBack(r, x)
			if r.Err() != api.ErrSyntax {
				t.Fatalf("%x is read without its end", data)
			}
			checkState(t, "a prefix", r, api.ErrSyntax, 0, n)
		}
	}
}

// P1: all functions terminate without a panic in all states, and an error stays.
func TestRandomCalls(t *testing.T) {
	source := rand.New(rand.NewSource(4))
	for range 5000 {
		data := make([]byte, source.Intn(20))
		source.Read(data)
		r := NewReader(data)
		for range 10 {
			e, offset := r.Err(), r.Offset()
			k := source.Intn(len(reads) + 2)
			switch {
			case k < len(reads):
				zero := reads[k].zero(r)
				if e != api.OK && !zero || r.Err() != api.OK && !zero {
					t.Fatalf("%s of %x has a result with an error", reads[k].name, data)
				}
			case k == len(reads) && source.Intn(4) == 0:
				r.Fail()
			default:
				r.End()
			}
			if e != api.OK && (r.Err() != e || r.Offset() != offset) || r.Offset()+r.Left() != len(data) {
				t.Fatalf("%x: error %d, offset %d, left %d", data, r.Err(), r.Offset(), r.Left())
			}
		}
	}
}
