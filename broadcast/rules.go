package broadcast

import (
	"bytes"
	"math/bits"

	"plexus/api"
)

// The kinds of packets, and what stands for no packet.
const (
	none  = 0
	known = 1
	ack   = 2
)

// name names a broadcast.
type name struct{ origin, number int }

// note is what a process knows of a broadcast.
type note struct {
	payload []byte
	knowing set
}

// set is a set of processes: the bit i stands for the process i.
type set uint16

// has reports whether a process is in the set.
func (s set) has(process int) bool { return s>>process&1 == 1 }

// size returns how many processes are in the set.
func (s set) size() int { return bits.OnesCount16(uint16(s)) }

// isProper reports whether a packet may have been sent to this process.
func (p *Process) isProper(m api.Packet) bool {
	switch {
	case m.Kind != known && m.Kind != ack, m.To != p.self, m.From == p.self, !p.isMember(m.From), !p.isMember(m.Origin):
		return false
	case m.Number < 1 || m.Number > api.MaxNumber, m.Kind == ack && len(m.Payload) > 0:
		return false
	}
	return m.Origin != p.self || m.Number <= p.made
}

// isMember reports whether a number is that of a process of the group.
func (p *Process) isMember(process int) bool { return process >= 0 && process < p.n }

// add notes a broadcast, known by this process and others, and returns the packets that tell all others: an Ack if they know it, a Known if not.
func (p *Process) add(b name, payload []byte, others ...int) []api.Packet {
	x := &note{payload: bytes.Clone(payload), knowing: 1 << p.self}
	p.notes[b], p.unstable[b] = x, true
	p.hear(b, others...)
	return p.packets(b, func(to int) int {
		switch {
		case to == p.self:
			return none
		case x.knowing.has(to):
			return ack
		}
		return known
	})
}

// hear notes that processes know a broadcast that is noted, and delivers what can be delivered then.
func (p *Process) hear(b name, processes ...int) {
	x := p.notes[b]
	for _, process := range processes {
		x.knowing |= 1 << process
	}
	if x.knowing.size() == p.n {
		delete(p.unstable, b)
	}
	p.deliver(b.origin)
}

// deliver delivers all that can be delivered of an origin whose broadcasts are the only ones of which a note has changed: there is nothing to deliver of the others.
func (p *Process) deliver(origin int) {
	for {
		next := name{origin: origin, number: p.delivered[origin] + 1}
		x := p.notes[next]
		if x == nil || 2*x.knowing.size() <= p.n {
			return
		}
		p.delivered[origin]++
		p.deliveries = append(p.deliveries, next)
	}
}

// packets returns packets about a broadcast that is noted to all processes for which kind does not return none, ascending.
func (p *Process) packets(b name, kind func(to int) int) []api.Packet {
	var list []api.Packet
	for to := range p.n {
		m := api.Packet{Kind: kind(to), From: p.self, To: to, Origin: b.origin, Number: b.number}
		if m.Kind == known {
			m.Payload = bytes.Clone(p.notes[b].payload)
		}
		if m.Kind != none {
			list = append(list, m)
		}
	}
	return list
}
