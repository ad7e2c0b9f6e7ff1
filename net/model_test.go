package net_test

import (
	"math/rand"
	"slices"
	"testing"

	"plexus/api"
	"plexus/copies"
	"plexus/net"
	"plexus/sample"
)

// model is a network by the definitions: all messages that were ever sent or duplicated, in order, with what has become of them.
type model struct {
	limit  int
	all    []fate
	split  bool
	groups [][]int
}

// fate is a message and what has become of it.
type fate struct {
	message                               api.Message
	isDuplicate, wasDelivered, wasDropped bool
}

// underWay reports whether a message is under way.
func (f fate) underWay() bool { return !f.wasDelivered && !f.wasDropped }

// counts are the counts.
func (m *model) counts() [5]int {
	var c [5]int
	for _, f := range m.all {
		for i, is := range []bool{!f.isDuplicate, f.isDuplicate, f.wasDelivered, f.wasDropped, f.underWay()} {
			if is {
				c[i]++
			}
		}
	}
	return c
}

// has reports whether a message with this number is under way.
func (m *model) has(number int) bool {
	return number >= 1 && number <= len(m.all) && m.all[number-1].underWay()
}

// pending returns the numbers of the messages under way, and those of them that can be delivered.
func (m *model) pending() (all, deliverable []int) {
	for i, f := range m.all {
		if f.underWay() {
			all = append(all, i+1)
			if connected(m.split, m.groups, f.message.From, f.message.To) {
				deliverable = append(deliverable, i+1)
			}
		}
	}
	return all, deliverable
}

// clone returns a model in the same state.
func (m *model) clone() *model {
	c := *m
	c.all = slices.Clone(m.all)
	return &c
}

// pair is a network with the model of it.
type pair struct {
	n *net.Net
	m *model
}

// put sends a message, or duplicates the one with a number.
func (p pair) put(t *testing.T, source *rand.Rand, number int) {
	t.Helper()
	f := fate{message: sample.AnyMessage(source.Intn)}
	want := api.OK
	full := p.m.counts()[4] == p.m.limit
	var got int
	var e api.Errno
	if number == 0 {
		if source.Intn(5) == 0 {
			f.message.From, want = api.MaxProcess+1+source.Intn(2), api.ErrArgument
		}
		got, e = p.n.Send(copies.Message(f.message))
	} else {
		if !p.m.has(number) {
			want = api.ErrNone
		} else {
			f = fate{message: p.m.all[number-1].message, isDuplicate: true}
		}
		got, e = p.n.Duplicate(number)
	}
	if want == api.OK && full {
		want = api.ErrFull
	}
	if want == api.OK {
		p.m.all = append(p.m.all, f)
	}
	if e != want || e == api.OK && got != len(p.m.all) || e != api.OK && got != 0 {
		t.Fatalf("Send or Duplicate(%d): %d, %d instead of %d", number, got, e, want)
	}
}

// take delivers or drops a message, or looks at it.
func (p pair) take(t *testing.T, source *rand.Rand, number int) {
	t.Helper()
	var want api.Message
	code := api.ErrNone
	if p.m.has(number) {
		want, code = p.m.all[number-1].message, api.OK
	}
	var got api.Message
	var e api.Errno
	switch source.Intn(3) {
	case 0:
		got, e = p.n.Peek(number)
	case 1:
		if code == api.OK && !connected(p.m.split, p.m.groups, want.From, want.To) {
			want, code = api.Message{}, api.ErrState
		}
		if code == api.OK {
			p.m.all[number-1].wasDelivered = true
		}
		got, e = p.n.Deliver(number)
	case 2:
		if code == api.OK {
			p.m.all[number-1].wasDropped = true
		}
		e = p.n.Drop(number)
		want = api.Message{}
	}
	if e != code || !same(got, want) {
		t.Fatalf("the number %d: %+v, %d instead of %+v, %d", number, got, e, want, code)
	}
}

// P28.1 to P28.4: random operations on networks and their copies, compared with models.
func TestModel(t *testing.T) {
	source := rand.New(rand.NewSource(4))
	for range 150 {
		limit := 1 + source.Intn(8)
		pairs := []pair{{n: made(t, limit), m: &model{limit: limit}}}
		for range 120 {
			p := pairs[source.Intn(len(pairs))]
			number := source.Intn(len(p.m.all)+3) - 1
			switch source.Intn(16) {
			case 0:
				p.m.split, p.m.groups = true, randomGroups(source)
				if e := p.n.Partition(p.m.groups); e != api.OK {
					t.Fatalf("Partition: %d", e)
				}
			case 1:
				p.n.Heal()
				p.m.split, p.m.groups = false, nil
			case 2:
				pairs = append(pairs, pair{n: p.n.Copy(), m: p.m.clone()})
			case 3, 4, 5, 6:
				p.put(t, source, 0)
			case 7, 8:
				if number != 0 {
					p.put(t, source, number)
				}
			default:
				p.take(t, source, number)
			}
			for _, p := range pairs {
				all, deliverable := p.m.pending()
				is(t, "a network", p.n, all, deliverable, p.m.counts())
			}
			counts := p.n.Counts()
			if counts[0]+counts[1] != counts[2]+counts[3]+counts[4] {
				t.Fatalf("the counts %v", counts)
			}
		}
	}
}
