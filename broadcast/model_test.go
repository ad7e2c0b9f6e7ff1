package broadcast_test

import (
	"bytes"
	"cmp"
	"math/rand"
	"slices"
	"testing"

	"plexus/api"
	"plexus/broadcast"
)

// model is a process by the rules of the chapter: its notes are a list in any order.
type model struct {
	n, self    int
	own        int
	notes      []*fact
	deliveries []api.Delivery
}

// fact is a note.
type fact struct {
	origin, number int
	payload        []byte
	known          map[int]bool // the processes that are known to know it
}

// find returns the note of a broadcast, or nil.
func (x *model) find(origin, number int) *fact {
	for _, f := range x.notes {
		if f.origin == origin && f.number == number {
			return f
		}
	}
	return nil
}

// broadcast is rule 1.
func (x *model) broadcast(payload []byte) []api.Packet {
	x.own++
	x.notes = append(x.notes, &fact{x.self, x.own, slices.Clone(payload), map[int]bool{x.self: true}})
	var list []api.Packet
	for to := range x.n {
		if to != x.self {
			list = append(list, knows(x.self, to, x.self, x.own, string(payload)))
		}
	}
	x.deliver()
	return list
}

// proper reports whether a packet is proper.
func (x *model) proper(m api.Packet) bool {
	inGroup := func(p int) bool { return 0 <= p && p < x.n }
	return (m.Kind == isKnown || m.Kind == isAck) && m.To == x.self && inGroup(m.From) && m.From != x.self && inGroup(m.Origin) &&
		1 <= m.Number && m.Number <= api.MaxNumber && (m.Kind == isKnown || len(m.Payload) == 0) && (m.Origin != x.self || m.Number <= x.own)
}

// receive is the rules 2 to 4.
func (x *model) receive(m api.Packet) []api.Packet {
	if !x.proper(m) {
		return nil
	}
	f := x.find(m.Origin, m.Number)
	if f == nil && m.Kind == isAck || f != nil && m.Kind == isKnown && !bytes.Equal(f.payload, m.Payload) {
		return nil
	}
	var list []api.Packet
	switch {
	case f == nil:
		x.notes = append(x.notes, &fact{m.Origin, m.Number, slices.Clone(m.Payload), map[int]bool{x.self: true, m.From: true, m.Origin: true}})
		for to := range x.n {
			if to == m.From || to == m.Origin {
				list = append(list, acks(x.self, to, m.Origin, m.Number))
			} else if to != x.self {
				list = append(list, knows(x.self, to, m.Origin, m.Number, string(m.Payload)))
			}
		}
	case m.Kind == isKnown:
		f.known[m.From], f.known[m.Origin] = true, true
		list = append(list, acks(x.self, m.From, m.Origin, m.Number))
	case m.Kind == isAck:
		f.known[m.From] = true
	}
	x.deliver()
	return list
}

// deliver is rule 5.
func (x *model) deliver() {
	for found := true; found; {
		found = false
		for origin := 0; origin < x.n && !found; origin++ {
			count := 0
			for _, d := range x.deliveries {
				if d.Origin == origin {
					count++
				}
			}
			if f := x.find(origin, count+1); f != nil && float64(len(f.known)) > float64(x.n)/2 {
				x.deliveries = append(x.deliveries, api.Delivery{Origin: origin, Number: count + 1, Payload: f.payload})
				found = true
			}
		}
	}
}

// resend returns a Known for each note to each process that is not known to know it.
func (x *model) resend() []api.Packet {
	slices.SortFunc(x.notes, func(a, b *fact) int {
		return cmp.Or(cmp.Compare(a.origin, b.origin), cmp.Compare(a.number, b.number))
	})
	var list []api.Packet
	for _, f := range x.notes {
		for to := range x.n {
			if !f.known[to] {
				list = append(list, knows(x.self, to, f.origin, f.number, string(f.payload)))
			}
		}
	}
	return list
}

// compare checks that a process tells the same as the model of it.
func (x *model) compare(t *testing.T, p *broadcast.Process) {
	t.Helper()
	send(t, "Resend", p.Resend(), x.resend()...)
	delivers(t, "Delivered", p, len(x.notes)-len(x.deliveries), x.deliveries...)
	for origin := -1; origin <= x.n; origin++ {
		for number := range 6 {
			f := x.find(origin, number)
			if got := p.Stable(origin, number); got != (f != nil && len(f.known) == x.n) {
				t.Fatalf("Stable(%d, %d): %t", origin, number, got)
			}
		}
	}
}

// anyPacket returns a packet that is mostly proper for a process of a group, with the payload that others have too.
func anyPacket(source *rand.Rand, n, self int) api.Packet {
	near := func() int { return source.Intn(n+2) - 1 }
	m := api.Packet{Kind: 1 + source.Intn(2), From: source.Intn(n), To: self, Origin: source.Intn(n), Number: 1 + source.Intn(4)}
	if m.Kind == isKnown {
		m.Payload = payload(m.Origin, m.Number)
	}
	switch source.Intn(14) {
	case 0:
		m.From = near()
	case 1:
		m.To = near()
	case 2:
		m.Origin = near()
	case 3:
		m.Number = []int{-1, 0, 5, api.MaxNumber, api.MaxNumber + 1}[source.Intn(5)]
	case 4:
		m.Kind = source.Intn(4)
	case 5:
		m.Payload = payload(m.Origin, m.Number+1)
	case 6:
		m.Payload = nil
	}
	return m
}

// payload returns the payload of a broadcast: the first of an origin is empty.
func payload(origin, number int) []byte {
	return []byte{byte(origin), byte(number)}[:min(2, max(0, number-1))]
}

// P32.1: any packets in any order, compared with the rules.
func TestRules(t *testing.T) {
	source := rand.New(rand.NewSource(321))
	for range 400 {
		n := 1 + source.Intn(7)
		if source.Intn(10) == 0 {
			n = api.MaxReplicas
		}
		self := source.Intn(n)
		p, x := made(t, n, self), &model{n: n, self: self}
		for range 80 {
			if source.Intn(12) == 0 {
				own := payload(self, x.own+1)
				send(t, "Broadcast", p.Broadcast(own), x.broadcast(own)...)
			} else {
				m := anyPacket(source, n, self)
				send(t, "Receive", p.Receive(m), x.receive(m)...)
			}
			x.compare(t, p)
		}
	}
}
