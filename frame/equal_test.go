package frame_test

import (
	"bytes"
	"math/rand"
	"reflect"
	"testing"

	"plexus/api"
	"plexus/copies"
	"plexus/frame"
)

// eachChange calls visit after each change of a place in a value: of a number, a byte, a string, or the length of a list. It undoes the change behind it.
func eachChange(v reflect.Value, visit func()) {
	old := reflect.New(v.Type()).Elem()
	old.Set(v)
	defer func() { v.Set(old) }()
	try := func(other reflect.Value) {
		v.Set(other)
		visit()
		v.Set(old)
	}
	switch v.Kind() {
	case reflect.Struct:
		for i := range v.NumField() {
			eachChange(v.Field(i), visit)
		}
	case reflect.Int:
		try(reflect.ValueOf(int(v.Int()) + 1))
		try(reflect.ValueOf(int(v.Int()) - 1<<32))
	case reflect.Uint8:
		try(reflect.ValueOf(byte(v.Uint()) ^ 1))
	case reflect.Bool:
		try(reflect.ValueOf(!v.Bool()))
	case reflect.String:
		try(reflect.ValueOf(v.String() + "x"))
		try(reflect.ValueOf("y" + v.String()))
	case reflect.Slice:
		for i := range v.Len() {
			eachChange(v.Index(i), visit)
		}
		try(reflect.Append(v.Slice3(0, v.Len(), v.Len()), reflect.Zero(v.Type().Elem())))
		if v.Len() > 0 {
			try(v.Slice(0, v.Len()-1))
			try(reflect.Zero(v.Type()))
		}
	}
}

// P30.4: a change of any place in any field makes another message, whether it has the form or not.
func TestEqual(t *testing.T) {
	source := rand.New(rand.NewSource(43))
	for range 40 {
		m := wild(source)
		if source.Intn(3) == 0 {
			m = randomFormed(source, 1+source.Intn(8))
		}
		other := copies.Message(m)
		changes := 0
		eachChange(reflect.ValueOf(&other).Elem(), func() {
			changes++
			if frame.Equal(m, other) || frame.Equal(other, m) {
				t.Fatalf("%+v and %+v are not equal", m, other)
			}
		})
		if !frame.Equal(m, other) || !frame.Equal(m, m) || changes < 20 {
			t.Fatalf("%+v and %+v are equal after %d changes", m, other, changes)
		}
	}
}

// withoutNils replaces nil slices in a value by empty ones.
func withoutNils(v reflect.Value) {
	switch v.Kind() {
	case reflect.Struct:
		for i := range v.NumField() {
			withoutNils(v.Field(i))
		}
	case reflect.Slice:
		if v.IsNil() {
			v.Set(reflect.MakeSlice(v.Type(), 0, 0))
		}
		for i := range v.Len() {
			withoutNils(v.Index(i))
		}
	}
}

// P30.4: nil and empty slices are the same.
func TestEqualNil(t *testing.T) {
	certificate := api.Certificate{}
	for _, m := range []api.Message{
		{}, {Kind: -1, From: -1, To: 99, Seq: -5},
		{Reads: make([]api.ReadID, 1), Base: []api.Base{{}, {Steps: []api.Certificate{certificate}, Taken: make([]api.Command, 2)}}, State: []api.Command{{Writes: make([]api.Write, 2)}}},
		{Acks: make([]api.Ack, 1), Proof: []api.Proof{{}, {Steps: []api.Certificate{{Claim: api.Claim{Reads: make([]api.ReadID, 1), Base: make([]api.Command, 1), Conf: make([]api.Command, 1)}, Acks: make([]api.Ack, 1)}}}}},
		{Digests: make([]api.Digest, 2), Objects: []string{""}, Items: []api.Item{{}, {Path: make([][]byte, 2)}}},
	} {
		filled := copies.Message(m)
		withoutNils(reflect.ValueOf(&filled).Elem())
		if !frame.Equal(m, filled) || !frame.Equal(filled, m) {
			t.Errorf("%+v and %+v are equal", m, filled)
		}
	}
}

// P30.5: two messages that have the form are equal exactly if their frames are.
func TestEqualFrames(t *testing.T) {
	source := rand.New(rand.NewSource(44))
	for _, kind := range everyKind {
		for range 3 {
			m := randomFormed(source, kind)
			b := encoded(t, m)
			other := copies.Message(m)
			if !bytes.Equal(encoded(t, other), b) {
				t.Fatalf("%+v has two frames", m)
			}
			eachChange(reflect.ValueOf(&other).Elem(), func() {
				c, e := frame.Encode(other)
				if e == api.OK && bytes.Equal(b, c) {
					t.Fatalf("%+v and %+v have the same frame", m, other)
				}
			})
		}
	}
}
