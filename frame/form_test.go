package frame_test

import (
	"math"
	"math/rand"
	"reflect"
	"testing"

	"plexus/api"
	"plexus/frame"
	"plexus/sample"
)

// numbered are the fields of a message that only some kinds use.
var numbered = []string{"Round", "Reads", "Base", "State", "Acks", "Proof", "Digests", "Objects", "Seq", "Items"}

// allowed returns for each field the least and the greatest number of elements in a kind. A round counts as one element if it is not zero, and so does Seq.
func allowed(kind int) [10][2]int {
	var bounds [10][2]int
	eachField(kinds[kind], func(name, encoding string) {
		for i, other := range numbered {
			if name != other {
				continue
			}
			switch encoding[0] {
			case '*':
				bounds[i] = [2]int{0, math.MaxInt}
			case '1':
				bounds[i] = [2]int{1, 1}
			default:
				bounds[i] = [2]int{0, 1}
			}
		}
	})
	return bounds
}

// withCounts returns a message of a kind with so many elements in the fields, and whether it has the form.
func withCounts(full api.Message, kind int, counts [10]int, bounds [10][2]int) (api.Message, bool) {
	m := api.Message{Kind: kind, From: full.From, To: full.To}
	m.Reads, m.Base, m.State, m.Acks = full.Reads[:counts[1]], full.Base[:counts[2]], full.State[:counts[3]], full.Acks[:counts[4]]
	m.Proof, m.Digests, m.Objects, m.Items = full.Proof[:counts[5]], full.Digests[:counts[6]], full.Objects[:counts[7]], full.Items[:counts[9]]
	if counts[0] == 1 {
		m.Round = full.Round
	}
	if counts[8] == 1 {
		m.Seq = full.Seq
	}
	is := kinds[kind] != ""
	for i, n := range counts {
		is = is && n >= bounds[i][0] && n <= bounds[i][1]
	}
	if kind == api.MsgResult {
		is = is && (counts[1] == 1 && counts[8] == 0 || counts[1] == 0 && counts[8] == 1 && m.Seq > 0)
	}
	return m, is
}

// twoOfAll returns a message with two elements in each list.
func twoOfAll(source *rand.Rand) api.Message {
	for {
		m := sample.AnyMessage(source.Intn)
		if min(len(m.Reads), len(m.Base), len(m.State), len(m.Acks), len(m.Proof), len(m.Digests), len(m.Objects), len(m.Items)) == 2 {
			return m
		}
	}
}

// P30.1: all kinds, with every combination of up to two elements in the lists, and of rounds and numbers.
func TestForms(t *testing.T) {
	source := rand.New(rand.NewSource(37))
	full := twoOfAll(source)
	rounds := []api.Round{{Replica: 1}, {Life: -1}, {Number: math.MaxInt}, {Replica: math.MinInt}, {Life: 1}, {Number: -1}}
	numbers := []int{1, -1, math.MaxInt, math.MinInt, 2}
	for _, kind := range append([]int{0, 9, -1}, everyKind...) {
		bounds := allowed(kind)
		for code := range 4 * 6561 {
			var counts [10]int
			counts[0], counts[8] = code&1, code>>1&1
			rest := code >> 2
			for _, i := range []int{1, 2, 3, 4, 5, 6, 7, 9} {
				counts[i] = rest % 3
				rest /= 3
			}
			full.Round, full.Seq = rounds[source.Intn(len(rounds))], numbers[source.Intn(len(numbers))]
			m, is := withCounts(full, kind, counts, bounds)
			want := api.ErrArgument
			if is {
				want = api.OK
			}
			if e := frame.Check(m); e != want {
				t.Fatalf("Check(%+v): %d", m, e)
			}
		}
	}
}

// P30.1: the kinds that there are not, and processes outside of the numbers.
func TestKindsAndProcesses(t *testing.T) {
	for _, kind := range []int{math.MinInt, -8, -1, 0, 9, 10, 256 + 5, 1<<32 + 5, math.MaxInt} {
		refusedForm(t, api.Message{Kind: kind})
	}
	for _, n := range []int{math.MinInt, -1, 64, 65, 256, 1 << 32, math.MaxInt} {
		refusedForm(t, api.Message{Kind: api.MsgFill, From: n})
		refusedForm(t, api.Message{Kind: api.MsgFill, To: n})
	}
	for n := range api.MaxProcess + 1 {
		m := api.Message{Kind: api.MsgFill, From: n, To: api.MaxProcess - n}
		if got, e := frame.Decode(encoded(t, m)); e != api.OK || !sameMessages(m, got) {
			t.Errorf("%+v: %+v, %d", m, got, e)
		}
	}
	refusedForm(t, api.Message{})
}

// refusedForm checks that a message is refused with ErrArgument.
func refusedForm(t *testing.T, m api.Message) {
	t.Helper()
	if e := frame.Check(m); e != api.ErrArgument {
		t.Errorf("Check(%+v): %d", m, e)
	}
	if b, e := frame.Encode(m); e != api.ErrArgument || len(b) != 0 {
		t.Errorf("Encode(%+v): %x, %d", m, b, e)
	}
}

// P30.1: a number of a round alone makes the round not zero.
func TestRounds(t *testing.T) {
	for _, r := range []api.Round{{Replica: 1}, {Life: 1}, {Number: 1}, {Replica: -1}, {Life: math.MinInt}, {Number: math.MaxInt}} {
		refusedForm(t, api.Message{Kind: api.MsgFill, Round: r})
		if e := frame.Check(api.Message{Kind: api.MsgReply, Round: r}); e != api.OK {
			t.Errorf("a reply in the round %+v: %d", r, e)
		}
	}
}

// P30.1: what numbers, tags and names are does not matter, nor whether an empty list is nil.
func TestContents(t *testing.T) {
	source := rand.New(rand.NewSource(38))
	for _, kind := range everyKind {
		for range 100 {
			m := formed(wild(source), kind, source.Intn(4))
			if e := frame.Check(m); e != api.OK {
				t.Fatalf("Check(%+v): %d", m, e)
			}
			filled := m
			v := reflect.ValueOf(&filled).Elem()
			for i := range v.NumField() {
				if v.Field(i).Kind() == reflect.Slice && v.Field(i).Len() == 0 {
					v.Field(i).Set(reflect.MakeSlice(v.Field(i).Type(), 0, 3))
				}
			}
			if string(encoded(t, filled)) != string(encoded(t, m)) {
				t.Fatalf("%+v with empty lists has another frame", m)
			}
		}
	}
}

// padded returns a message with a byte string made longer, so that its payload gets a size. It returns false if there is no byte string, or none that fits.
func padded(m api.Message, zeros []byte, size int) (api.Message, bool) {
	tag := firstBytes(reflect.ValueOf(&m).Elem())
	if !tag.IsValid() {
		return m, false
	}
	tag.SetBytes(zeros[:size/2])
	// The length of the string has now as many bytes as in the end.
	more := size - len(payload(m))
	tag.SetBytes(zeros[:tag.Len()+more])
	return m, len(payload(m)) == size
}

// firstBytes returns the first byte string in a value, in a field that can be set; an invalid value if there is none.
func firstBytes(v reflect.Value) reflect.Value {
	if v.Kind() == reflect.Slice && v.Type().Elem().Kind() == reflect.Uint8 {
		return v
	}
	parts := 0
	part := v.Index
	switch v.Kind() {
	case reflect.Slice:
		parts = v.Len()
	case reflect.Struct:
		parts, part = v.NumField(), v.Field
	}
	for i := range parts {
		if found := firstBytes(part(i)); found.IsValid() {
			return found
		}
	}
	return reflect.Value{}
}

// P30.1: a frame has at most MaxFrame bytes, whatever else is in the message.
func TestLimit(t *testing.T) {
	source := rand.New(rand.NewSource(39))
	zeros := make([]byte, api.MaxFrame)
	const size = api.MaxFrame - 4
	checked := map[int]int{}
	for _, kind := range everyKind {
		for i := range 8 {
			m := randomFormed(source, kind)
			if i == 0 {
				m = formed(long(source), kind, 0)
			}
			m, ok := padded(m, zeros, size)
			if !ok {
				continue
			}
			checked[kind]++
			if e := frame.Check(m); e != api.OK {
				t.Errorf("kind %d: Check of the longest frame: %d", kind, e)
			}
			m, _ = padded(m, zeros, size+1)
			if e := frame.Check(m); e != api.ErrLimit {
				t.Errorf("kind %d: Check of a frame that is too long: %d", kind, e)
			}
			if b, e := frame.Encode(m); e != api.ErrLimit || len(b) != 0 {
				t.Errorf("kind %d: Encode of a frame that is too long: %d bytes, %d", kind, len(b), e)
			}
			m.From = -1
			if e := frame.Check(m); e != api.ErrArgument {
				t.Errorf("kind %d: the form is checked first, but Check: %d", kind, e)
			}
		}
	}
	if len(checked) != len(kinds) {
		t.Errorf("no byte strings in some kinds: %v", checked)
	}
}

// P30.3: the longest frames are written and read, and long lists of the shortest elements.
func TestLongestFrames(t *testing.T) {
	tag := make([]byte, api.MaxFrame-17)
	rand.New(rand.NewSource(40)).Read(tag)
	for i, m := range []api.Message{
		{Kind: api.MsgFill, From: 1, To: 2, State: []api.Command{{Tag: tag}}},
		{Kind: api.MsgRead, Reads: make([]api.ReadID, 1), Objects: []string{string(tag[9:]), "abcd", "efgh"}},
		{Kind: api.MsgResult, Proof: make([]api.Proof, 1), Seq: 1, Items: []api.Item{{Path: make([][]byte, 1<<20)}}},
	} {
		b := encoded(t, m)
		if got, e := frame.Decode(b); e != api.OK || !frame.Equal(got, m) || !sameMessages(got, m) {
			t.Errorf("message %d: %d", i, e)
		}
		if i < 2 && len(b) != api.MaxFrame {
			t.Errorf("the frame %d has %d bytes", i, len(b))
		}
	}
	if e := frame.Check(api.Message{Kind: api.MsgRead, Reads: make([]api.ReadID, 1), Objects: make([]string, api.MaxFrame)}); e != api.ErrLimit {
		t.Errorf("many objects: %d", e)
	}
}
