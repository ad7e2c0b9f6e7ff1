package frame_test

import (
	"bytes"
	"encoding/binary"
	"math"
	"math/rand"
	"reflect"
	"slices"
	"strings"
	"testing"

	"plexus/api"
	"plexus/frame"
)

// parsed reads a value in an encoding from b, and returns what is left, or false.
func parsed(b []byte, v reflect.Value, encoding string) ([]byte, bool) {
	switch encoding {
	case "int":
		n, size := binary.Varint(b)
		if size <= 0 || !bytes.Equal(intOf(nil, n), b[:size]) {
			return nil, false
		}
		v.SetInt(n)
		return b[size:], true
	case "bool":
		if len(b) == 0 || b[0] > 1 {
			return nil, false
		}
		v.SetBool(b[0] == 1)
		return b[1:], true
	}
	if element, is := elements[encoding]; is {
		ok := true
		eachField(element, func(name, encoding string) {
			if ok {
				b, ok = parsed(b, v.FieldByName(name), encoding)
			}
		})
		return b, ok
	}
	n, size := binary.Uvarint(b)
	if size <= 0 || !bytes.Equal(uintOf(nil, n), b[:size]) || n > uint64(len(b)-size) {
		return nil, false
	}
	b = b[size:]
	switch encoding {
	case "bytes":
		v.SetBytes(b[:n])
		return b[n:], true
	case "text":
		v.SetString(string(b[:n]))
		return b[n:], true
	}
	if n != 1 && encoding[0] == '1' || n > 1 && encoding[0] == '?' {
		return nil, false
	}
	ok := true
	for i := 0; i < int(n) && ok; i++ {
		v.Set(reflect.Append(v, reflect.Zero(v.Type().Elem())))
		b, ok = parsed(b, v.Index(i), encoding[1:])
	}
	return b, ok
}

// parse returns the message that has a payload, if there is one.
func parse(b []byte) (api.Message, bool) {
	kind, size := binary.Uvarint(b)
	if size != 1 || kind < 1 || kind > 8 {
		return api.Message{}, false
	}
	m := api.Message{Kind: int(kind)}
	v := reflect.ValueOf(&m).Elem()
	b, ok := b[size:], true
	eachField("From:int To:int "+kinds[m.Kind], func(name, encoding string) {
		if ok {
			b, ok = parsed(b, v.FieldByName(name), encoding)
		}
	})
	if !ok || len(b) != 0 || m.From < 0 || m.From > api.MaxProcess || m.To < 0 || m.To > api.MaxProcess {
		return api.Message{}, false
	}
	if m.Kind == api.MsgResult && !(len(m.Reads) == 1 && m.Seq == 0 || len(m.Reads) == 0 && m.Seq > 0) {
		return api.Message{}, false
	}
	return m, true
}

// mutated returns a payload with a small change at a random place.
func mutated(b []byte, source *rand.Rand) []byte {
	b = slices.Clone(b)
	at := source.Intn(len(b))
	switch source.Intn(5) {
	case 0:
		b[at] ^= 1 << source.Intn(8)
	case 1:
		b[at] = byte(source.Intn(4))
	case 2:
		b = slices.Delete(b, at, at+1)
	case 3:
		b = slices.Insert(b, at, []byte{0, 1, 2, 128, 255}[source.Intn(5)])
	case 4:
		// The same number, if one ends here, in more bytes than needed.
		b[at] |= 128
		b = slices.Insert(b, at+1, 0)
	}
	return b
}

// P30.3: payloads with small changes and the sum that belongs to them are frames exactly if the tables say so.
func TestChangedPayloads(t *testing.T) {
	source := rand.New(rand.NewSource(41))
	good, bad := map[int]int{}, map[int]int{}
	for _, kind := range everyKind {
		for range 2000 {
			b := mutated(payload(randomFormed(source, kind)), source)
			if source.Intn(4) == 0 {
				b = mutated(append(b, 0), source)
			}
			want, ok := parse(b)
			if !ok {
				bad[kind]++
				refused(t, "a changed payload", sealed(b))
				continue
			}
			good[kind]++
			if m, e := frame.Decode(sealed(b)); e != api.OK || !sameMessages(m, want) {
				t.Fatalf("Decode of the payload %x: %+v, %d instead of %+v", b, m, e, want)
			}
		}
		if good[kind] < 100 || bad[kind] < 100 {
			t.Errorf("kind %d: %d good and %d bad payloads", kind, good[kind], bad[kind])
		}
	}
}

// P30.3: all payloads of up to three bytes with small numbers, and all of four bytes with kind 4 or 5.
func TestShortPayloads(t *testing.T) {
	some := []byte{0, 1, 2, 3, 4, 5, 6, 7, 8, 9, 126, 127, 128, 129, 255}
	list := [][]byte{nil}
	for at := 0; at < len(list); at++ {
		b := list[at]
		want, ok := parse(b)
		if m, e := frame.Decode(sealed(b)); (e == api.OK) != ok || e != api.OK && e != api.ErrSyntax || !sameMessages(m, want) {
			t.Fatalf("Decode of the payload %x: %+v, %d", b, m, e)
		}
		if len(b) < 3 || len(b) == 3 && (b[0] == api.MsgDigests || b[0] == api.MsgFill) {
			for _, next := range some {
				list = append(list, append(slices.Clone(b), next))
			}
		}
	}
}

// P30.3: byte strings that are no frames: too short, with another sum, with a sum in another order, with bytes left.
func TestNoFrames(t *testing.T) {
	for n := range 8 {
		refused(t, "zeros", make([]byte, n))
		refused(t, "a short string", bytes.Repeat([]byte{255}, n))
	}
	refused(t, "nil", nil)
	refused(t, "no payload", sealed(nil))
	b := encoded(t, api.Message{Kind: api.MsgFill, From: 1, To: 2})
	for _, order := range [][4]int{{7, 6, 5, 4}, {5, 4, 7, 6}, {6, 7, 4, 5}} {
		c := slices.Clone(b)
		for i, from := range order {
			c[4+i] = b[from]
		}
		refused(t, "a sum in another order", c)
	}
	refused(t, "the payload alone", b[:4])
	refused(t, "the sum alone", b[4:])
	refused(t, "the sum twice", append(slices.Clone(b), b[4:]...))
	refused(t, "a frame as a payload", sealed(b))
	refused(t, "two frames", append(slices.Clone(b), b...))
}

// filled returns the frame with the payload of a MsgFill, but with other numbers, and with other bytes behind them.
func filled(kind uint64, from, to int64, rest ...byte) []byte {
	return sealed(append(intOf(intOf(uintOf(nil, kind), from), to), rest...))
}

// P30.3: payloads with another kind, or with processes outside of the numbers.
func TestOtherNumbers(t *testing.T) {
	if _, e := frame.Decode(filled(api.MsgFill, 63, 0, 0)); e != api.OK {
		t.Fatalf("a MsgFill: %d", e)
	}
	for _, kind := range []uint64{0, 9, 133, 1<<32 + 5, 1 << 63, 1<<63 + 5, math.MaxUint64} {
		refused(t, "another kind", filled(kind, 1, 2, 0))
		refused(t, "another kind without fields", filled(kind, 1, 2))
	}
	for _, n := range []int64{math.MinInt64, -1, 64, 1 << 32, math.MaxInt64} {
		refused(t, "another sender", filled(api.MsgFill, n, 0, 0))
		refused(t, "another receiver", filled(api.MsgFill, 0, n, 0))
	}
}

// P30.3: payloads with too few or too many elements, each with its sum.
func TestNumbersOfElements(t *testing.T) {
	const good, bad = true, false
	none, one, two := []byte{0}, []byte{1}, []byte{2}
	round, read, command, ack, base := []byte{0, 0, 0}, []byte{0, 0, 0}, []byte{0, 0, 0, 0, 0, 0}, []byte{0, 0}, []byte{0, 0}
	proof := make([]byte, 10) // a list of steps, the claim (a round, three lists, a number and the root), a list of acks
	for i, c := range []struct {
		want  bool
		kind  uint64
		parts [][]byte
	}{
		{good, api.MsgPropose, [][]byte{round, none, one, base, none}},
		{bad, api.MsgPropose, [][]byte{round, none, none, none}},
		{bad, api.MsgPropose, [][]byte{round, none, two, base, base, none}},
		{good, api.MsgReply, [][]byte{round, none, one, base, one, ack}},
		{bad, api.MsgReply, [][]byte{round, none, two, base, base, none}},
		{bad, api.MsgReply, [][]byte{round, none, none, two, ack, ack}},
		{good, api.MsgLearned, [][]byte{one, proof, none}},
		{bad, api.MsgLearned, [][]byte{none, none}},
		{bad, api.MsgLearned, [][]byte{two, proof, proof, none}},
		{good, api.MsgUpdate, [][]byte{one, command}},
		{bad, api.MsgUpdate, [][]byte{none}},
		{bad, api.MsgUpdate, [][]byte{two, command, command}},
		{good, api.MsgRead, [][]byte{one, read, none}},
		{bad, api.MsgRead, [][]byte{none, none}},
		{bad, api.MsgRead, [][]byte{two, read, read, none}},
		{good, api.MsgResult, [][]byte{one, proof, one, read, none, none}},
		{good, api.MsgResult, [][]byte{one, proof, none, two, none}},     // the Seq 1
		{bad, api.MsgResult, [][]byte{one, proof, none, none, none}},     // the Seq 0
		{bad, api.MsgResult, [][]byte{one, proof, none, one, none}},      // the Seq -1
		{bad, api.MsgResult, [][]byte{one, proof, one, read, two, none}}, // a read, and the Seq 1
		{bad, api.MsgResult, [][]byte{one, proof, one, read, one, none}}, // a read, and the Seq -1
		{bad, api.MsgResult, [][]byte{one, proof, two, read, read, none, none}},
		{bad, api.MsgResult, [][]byte{none, one, read, none, none}},
		{bad, api.MsgResult, [][]byte{two, proof, proof, one, read, none, none}},
	} {
		b := filled(c.kind, 1, 2, slices.Concat(c.parts...)...)
		if _, e := frame.Decode(b); (e == api.OK) != c.want || e != api.OK && e != api.ErrSyntax {
			t.Errorf("payload %d: %d", i, e)
		}
	}
}

// P30.3: numbers of elements and lengths far beyond the bytes that follow.
func TestHugeCounts(t *testing.T) {
	for _, n := range []uint64{2, 1000, 1 << 24, 1 << 32, 1 << 62, 1 << 63, math.MaxUint64} {
		for kind := uint64(1); kind <= 8; kind++ {
			head := intOf(intOf(uintOf(nil, kind), 1), 2)
			refused(t, "many elements", sealed(uintOf(head, n)))
			for _, zeros := range []int{1, 3, 10} {
				refused(t, "many elements", sealed(uintOf(append(slices.Clone(head), make([]byte, zeros)...), n)))
			}
		}
		refused(t, "many commands", sealed(append(uintOf([]byte{5, 2, 4}, n), 0, 0, 0, 0, 0, 0)))
		refused(t, "a long tag", sealed(append(uintOf([]byte{5, 2, 4, 1, 0, 0, 0, 0, 0}, n), 0)))
	}
}

// P30.5: a frame that is shortened, or followed by further bytes, is no frame, also with a sum that belongs to it.
func TestShortenedAndExtended(t *testing.T) {
	source := rand.New(rand.NewSource(42))
	for _, kind := range everyKind {
		for range 10 {
			m := shortFormed(t, source, kind)
			b := encoded(t, m)
			for n := range len(b) {
				refused(t, "a shortened frame", b[:n])
			}
			for n := range len(b) - 4 {
				refused(t, "a shortened payload", sealed(b[:n]))
			}
			for n := 1; n < 20; n++ {
				more := make([]byte, n)
				refused(t, "zeros behind a frame", append(slices.Clone(b), more...))
				refused(t, "zeros behind a payload", sealed(append(payload(m), more...)))
				source.Read(more)
				refused(t, "bytes behind a frame", append(slices.Clone(b), more...))
				refused(t, "bytes behind a payload", sealed(append(payload(m), more...)))
			}
		}
	}
}

// The errors of Decode: what is too long is refused with ErrLimit, frame or not.
func TestTooLong(t *testing.T) {
	long := sealed(payload(api.Message{Kind: api.MsgRead, Reads: make([]api.ReadID, 1), Objects: []string{strings.Repeat("x", api.MaxFrame-15)}}))
	for _, b := range [][]byte{make([]byte, api.MaxFrame+1), make([]byte, 2*api.MaxFrame), long} {
		if m, e := frame.Decode(b); e != api.ErrLimit || !reflect.ValueOf(m).IsZero() {
			t.Errorf("Decode of %d bytes: %d", len(b), e)
		}
	}
	refused(t, "zeros", make([]byte, api.MaxFrame))
	if len(long) != api.MaxFrame+1 {
		t.Errorf("the long frame has %d bytes", len(long))
	}
}
