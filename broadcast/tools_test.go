package broadcast_test

import (
	"bytes"
	"slices"
	"testing"

	"plexus/api"
	"plexus/broadcast"
)

// The kinds of packets.
const (
	isKnown = 1
	isAck   = 2
)

// made returns a new process.
func made(t *testing.T, n, process int) *broadcast.Process {
	t.Helper()
	p, e := broadcast.New(n, process)
	if e != api.OK || p == nil {
		t.Fatalf("New(%d, %d): %d", n, process, e)
	}
	return p
}

// group returns all processes of a new group.
func group(t *testing.T, n int) []*broadcast.Process {
	t.Helper()
	list := make([]*broadcast.Process, n)
	for i := range list {
		list[i] = made(t, n, i)
	}
	return list
}

// knows returns a Known.
func knows(from, to, origin, number int, payload string) api.Packet {
	return api.Packet{Kind: isKnown, From: from, To: to, Origin: origin, Number: number, Payload: []byte(payload)}
}

// acks returns an Ack.
func acks(from, to, origin, number int) api.Packet {
	return api.Packet{Kind: isAck, From: from, To: to, Origin: origin, Number: number}
}

// delivery returns a delivery.
func delivery(origin, number int, payload string) api.Delivery {
	return api.Delivery{Origin: origin, Number: number, Payload: []byte(payload)}
}

// same reports whether two packets are equal.
func same(a, b api.Packet) bool {
	return a.Kind == b.Kind && a.From == b.From && a.To == b.To && a.Origin == b.Origin && a.Number == b.Number && bytes.Equal(a.Payload, b.Payload)
}

// samePackets reports whether two lists of packets are equal.
func samePackets(a, b []api.Packet) bool { return slices.EqualFunc(a, b, same) }

// sameDeliveries reports whether two lists of deliveries are equal.
func sameDeliveries(a, b []api.Delivery) bool {
	return slices.EqualFunc(a, b, func(a, b api.Delivery) bool {
		return a.Origin == b.Origin && a.Number == b.Number && bytes.Equal(a.Payload, b.Payload)
	})
}

// send checks which packets a call returns.
func send(t *testing.T, what string, got []api.Packet, want ...api.Packet) {
	t.Helper()
	if !samePackets(got, want) {
		t.Fatalf("%s: %+v instead of %+v", what, got, want)
	}
}

// delivers checks what a process has delivered, and how many broadcasts wait.
func delivers(t *testing.T, what string, p *broadcast.Process, waiting int, want ...api.Delivery) {
	t.Helper()
	if got := p.Delivered(); !sameDeliveries(got, want) || p.Waiting() != waiting {
		t.Fatalf("%s: %+v, and %d wait, instead of %+v and %d", what, got, p.Waiting(), want, waiting)
	}
}
