package frame_test

import (
	"bytes"
	"math/rand"
	"reflect"
	"testing"

	"plexus/api"
	"plexus/copies"
	"plexus/frame"
	"plexus/sample"
)

// P30.1 to P30.3: the examples.
func TestExamples(t *testing.T) {
	b := encoded(t, api.Message{Kind: api.MsgFill, From: 1, To: 2})
	if len(b) != 8 || !bytes.Equal(b[:4], []byte{5, 2, 4, 0}) {
		t.Errorf("a MsgFill without commands: %x", b)
	}
	if frame.Sum(nil) != 0 || frame.Sum([]byte("123456789")) != 0xcbf43926 {
		t.Error("Sum")
	}
	for _, m := range []api.Message{{Kind: api.MsgUpdate, From: 16}, {Kind: api.MsgFill, Seq: 1}} {
		if e := frame.Check(m); e != api.ErrArgument {
			t.Errorf("Check(%+v): %d", m, e)
		}
	}
}

// P30.3: random messages of each kind have the frame that the tables say, and are read from it.
func TestFrames(t *testing.T) {
	source := rand.New(rand.NewSource(30))
	for _, kind := range everyKind {
		for range 300 {
			m := randomFormed(source, kind)
			if e := frame.Check(m); e != api.OK {
				t.Fatalf("Check(%+v): %d", m, e)
			}
			b := sealed(payload(m))
			if got := encoded(t, m); !bytes.Equal(got, b) {
				t.Fatalf("Encode(%+v): %x instead of %x", m, got, b)
			}
			if got, e := frame.Decode(b); e != api.OK || !sameMessages(got, m) {
				t.Fatalf("Decode(%x): %+v, %d instead of %+v", b, got, e, m)
			}
		}
	}
}

// P30.3: lists of each kind of elements with many elements.
func TestLongListsOfElements(t *testing.T) {
	source := rand.New(rand.NewSource(31))
	for _, kind := range everyKind {
		m := formed(long(source), kind, 0)
		b := encoded(t, m)
		if !bytes.Equal(b, sealed(payload(m))) {
			t.Errorf("kind %d: the frame of long lists", kind)
		}
		if got, e := frame.Decode(b); e != api.OK || !sameMessages(got, m) {
			t.Errorf("kind %d: the message of long lists: %d", kind, e)
		}
	}
}

// Arguments are not modified, and results share no memory with them, nor with each other.
func TestSharesNothing(t *testing.T) {
	source := rand.New(rand.NewSource(32))
	for _, kind := range everyKind {
		m, other := randomFormed(source, kind), sample.AnyMessage(source.Intn)
		m = copies.Message(m)
		before, otherBefore := copies.Message(m), copies.Message(other)
		frame.Check(m)
		frame.Equal(m, other)
		frame.Equal(m, before)
		b, again := encoded(t, m), encoded(t, m)
		bytesBefore := bytes.Clone(b)
		first, _ := frame.Decode(b)
		second, _ := frame.Decode(b)
		frame.Sum(b)
		if !sample.Separate(m, other, b, again, first, second) {
			t.Errorf("kind %d: memory is shared", kind)
		}
		if !reflect.DeepEqual(m, before) || !reflect.DeepEqual(other, otherBefore) || !bytes.Equal(b, bytesBefore) {
			t.Errorf("kind %d: an argument is modified", kind)
		}
	}
}
