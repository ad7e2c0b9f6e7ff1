package frame_test

import (
	"encoding/binary"
	"hash/crc32"
	"math"
	"math/rand"
	"reflect"
	"strings"
	"testing"

	"plexus/api"
	"plexus/frame"
	"plexus/sample"
)

// What follows is a second writer and a second reader of payloads, which follow the chapter's tables.

// kinds are the used fields of each kind. A list has any number of elements with *, at most one with ?, one with 1.
var kinds = map[int]string{
	api.MsgPropose: "Round:round Reads:*read Base:1base State:*command",
	api.MsgReply:   "Round:round State:*command Base:?base Acks:?ack",
	api.MsgLearned: "Proof:1proof State:*command",
	api.MsgDigests: "Digests:*digest",
	api.MsgFill:    "State:*command",
	api.MsgUpdate:  "State:1command",
	api.MsgRead:    "Reads:1read Objects:*text",
	api.MsgResult:  "Proof:1proof Reads:?read Seq:int Items:*item",
}

// everyKind are the kinds, in order.
var everyKind = []int{api.MsgPropose, api.MsgReply, api.MsgLearned, api.MsgDigests, api.MsgFill, api.MsgUpdate, api.MsgRead, api.MsgResult}

// elements are the encodings of the elements.
var elements = map[string]string{
	"round":       "Replica:int Life:int Number:int",
	"read":        "Client:int Number:int Tag:bytes",
	"command":     "Client:int Seq:int Kind:int Writes:*write Replica:int Tag:bytes",
	"write":       "Object:text Delta:bytes",
	"claim":       "Round:round Reads:*read Base:*command Conf:*command Count:int Root:bytes",
	"ack":         "Replica:int Tag:bytes",
	"certificate": "Claim:claim Acks:*ack",
	"base":        "Steps:*certificate Taken:*command",
	"proof":       "Steps:*certificate Last:certificate",
	"digest":      "Prefix:bytes Sum:bytes Count:int",
	"item":        "Key:text Present:bool Content:bytes Path:*bytes",
}

// uintOf appends a number without sign, intOf one with sign.
func uintOf(b []byte, n uint64) []byte { return binary.AppendUvarint(b, n) }
func intOf(b []byte, n int64) []byte   { return binary.AppendVarint(b, n) }

// eachField calls visit with the name and the encoding of each field of a list of fields.
func eachField(fields string, visit func(name, encoding string)) {
	for _, field := range strings.Fields(fields) {
		name, encoding, _ := strings.Cut(field, ":")
		visit(name, encoding)
	}
}

// written appends a value in an encoding.
func written(b []byte, v reflect.Value, encoding string) []byte {
	switch encoding {
	case "int":
		return intOf(b, v.Int())
	case "bool":
		if v.Bool() {
			return append(b, 1)
		}
		return append(b, 0)
	case "bytes":
		return append(uintOf(b, uint64(v.Len())), v.Bytes()...)
	case "text":
		return append(uintOf(b, uint64(v.Len())), v.String()...)
	}
	if strings.Contains("*?1", encoding[:1]) {
		b = uintOf(b, uint64(v.Len()))
		for i := range v.Len() {
			b = written(b, v.Index(i), encoding[1:])
		}
		return b
	}
	eachField(elements[encoding], func(name, encoding string) { b = written(b, v.FieldByName(name), encoding) })
	return b
}

// payload returns the payload of a message of one of the kinds.
func payload(m api.Message) []byte {
	b := intOf(intOf(uintOf(nil, uint64(m.Kind)), int64(m.From)), int64(m.To))
	eachField(kinds[m.Kind], func(name, encoding string) { b = written(b, reflect.ValueOf(m).FieldByName(name), encoding) })
	return b
}

// sealed appends the sum to a payload.
func sealed(b []byte) []byte {
	return binary.LittleEndian.AppendUint32(append([]byte{}, b...), crc32.ChecksumIEEE(b))
}

// formed makes a message of a kind of one that has something in all fields: fields that the kind does not use are emptied, others shortened. With bit 0 of more a field that need not have elements has none; with bit 1 a result is one of an update.
func formed(m api.Message, kind, more int) api.Message {
	out := api.Message{Kind: kind, From: m.From, To: m.To}
	eachField(kinds[kind], func(name, encoding string) {
		field := reflect.ValueOf(&out).Elem().FieldByName(name)
		field.Set(reflect.ValueOf(m).FieldByName(name))
		switch {
		case strings.Contains("*?", encoding[:1]) && more&1 != 0:
			field.SetZero()
		case strings.Contains("?1", encoding[:1]):
			field.Set(field.Slice3(0, 1, 1))
		}
	})
	if kind == api.MsgResult {
		if more&2 != 0 {
			out.Reads, out.Seq = nil, 1+m.Seq&math.MaxInt/2
		} else {
			out.Reads, out.Seq = m.Reads[:1:1], 0
		}
	}
	return out
}

// scramble replaces numbers and byte strings in the lists of a value by others, also by extreme ones.
func scramble(v reflect.Value, source *rand.Rand) {
	numbers := []int{0, 1, -1, 63, 64, -64, -65, 8191, 8192, -8192, -8193, 1 << 40, -1 << 40, math.MaxInt, math.MinInt, math.MinInt + 1, int(source.Uint64()), int(source.Uint64() >> source.Intn(64))}
	lengths := []int{0, 1, 2, 16, 127, 128, 300}
	switch v.Kind() {
	case reflect.Struct:
		for i := range v.NumField() {
			scramble(v.Field(i), source)
		}
	case reflect.Int:
		v.SetInt(int64(numbers[source.Intn(len(numbers))]))
	case reflect.String:
		b := make([]byte, lengths[source.Intn(len(lengths))])
		source.Read(b)
		v.SetString(string(b))
	case reflect.Slice:
		if v.Type().Elem().Kind() == reflect.Uint8 {
			b := make([]byte, lengths[source.Intn(len(lengths))])
			source.Read(b)
			v.SetBytes(b)
			return
		}
		for i := range v.Len() {
			scramble(v.Index(i), source)
		}
	}
}

// wild returns a random message that has something in all of its fields, with extreme numbers and byte strings.
func wild(source *rand.Rand) api.Message {
	m := sample.AnyMessage(source.Intn)
	kind, from, to := m.Kind, m.From, m.To
	scramble(reflect.ValueOf(&m).Elem(), source)
	m.Kind, m.From, m.To = kind, from, to
	return m
}

// randomFormed returns a random message that has the form.
func randomFormed(source *rand.Rand, kind int) api.Message {
	m := sample.AnyMessage(source.Intn)
	if source.Intn(2) == 0 {
		m = wild(source)
	}
	return formed(m, kind, source.Intn(4))
}

// long returns a random message that has something in all of its fields, with some hundred elements in most lists.
func long(source *rand.Rand) api.Message {
	all := sample.AnyMessage(source.Intn)
	for range 300 {
		next := sample.AnyMessage(source.Intn)
		all.Reads, all.State, all.Digests = append(all.Reads, next.Reads...), append(all.State, next.State...), append(all.Digests, next.Digests...)
		all.Objects, all.Items = append(all.Objects, next.Objects...), append(all.Items, next.Items...)
		base, proof := &all.Base[0], &all.Proof[0]
		base.Steps, base.Taken = append(base.Steps, next.Base[0].Steps...), append(base.Taken, next.State...)
		proof.Steps, proof.Last.Acks = append(proof.Steps, next.Proof[0].Steps...), append(proof.Last.Acks, next.Acks...)
		all.State[0].Writes, all.Items[0].Path = append(all.State[0].Writes, next.State[0].Writes...), append(all.Items[0].Path, next.Items[0].Path...)
	}
	return all
}

// shortFormed returns a random message whose frame has at most 400 bytes.
func shortFormed(t *testing.T, source *rand.Rand, kind int) api.Message {
	t.Helper()
	for {
		if m := randomFormed(source, kind); len(encoded(t, m)) <= 400 {
			return m
		}
	}
}

// same reports whether two values are equal, where nil and empty slices are.
func same(a, b reflect.Value) bool {
	switch a.Kind() {
	case reflect.Struct:
		for i := range a.NumField() {
			if !same(a.Field(i), b.Field(i)) {
				return false
			}
		}
		return true
	case reflect.Slice:
		for i := range min(a.Len(), b.Len()) {
			if !same(a.Index(i), b.Index(i)) {
				return false
			}
		}
		return a.Len() == b.Len()
	}
	return a.Equal(b)
}

// sameMessages reports whether two messages are equal.
func sameMessages(a, b api.Message) bool { return same(reflect.ValueOf(a), reflect.ValueOf(b)) }

// encoded returns the frame of a message.
func encoded(t *testing.T, m api.Message) []byte {
	t.Helper()
	b, e := frame.Encode(m)
	if e != api.OK {
		t.Fatalf("Encode(%+v): %d", m, e)
	}
	return b
}

// refused checks that b is not the frame of a message.
func refused(t *testing.T, what string, b []byte) {
	t.Helper()
	if m, e := frame.Decode(b); e != api.ErrSyntax || !reflect.ValueOf(m).IsZero() {
		t.Fatalf("%s: Decode(%x): %+v, %d", what, b, m, e)
	}
}
