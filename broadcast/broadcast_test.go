package broadcast_test

import (
	"math"
	"strings"
	"testing"

	"plexus/api"
	"plexus/broadcast"
	"plexus/sample"
)

// P32.1: the first example.
func TestAlone(t *testing.T) {
	p := made(t, 1, 0)
	send(t, "Broadcast", p.Broadcast([]byte("x")))
	delivers(t, "at once", p, 0, delivery(0, 1, "x"))
	send(t, "Broadcast", p.Broadcast(nil))
	delivers(t, "at once", p, 0, delivery(0, 1, "x"), delivery(0, 2, ""))
	send(t, "Resend", p.Resend())
	if !p.Stable(0, 1) || !p.Stable(0, 2) || p.Stable(0, 3) || p.Stable(1, 1) {
		t.Error("what one process knows all know")
	}
}

// P32.1: the other examples, to the end.
func TestExamples(t *testing.T) {
	p := group(t, 3)
	send(t, "Broadcast of x", p[0].Broadcast([]byte("x")), knows(0, 1, 0, 1, "x"), knows(0, 2, 0, 1, "x"))
	delivers(t, "process 0 alone knows x", p[0], 1)
	send(t, "process 1 hears x", p[1].Receive(knows(0, 1, 0, 1, "x")), acks(1, 0, 0, 1), knows(1, 2, 0, 1, "x"))
	delivers(t, "process 1 has x", p[1], 0, delivery(0, 1, "x"))
	send(t, "process 0 hears of process 1", p[0].Receive(acks(1, 0, 0, 1)))
	delivers(t, "process 0 has x", p[0], 0, delivery(0, 1, "x"))
	send(t, "Broadcast of y", p[0].Broadcast([]byte("y")), knows(0, 1, 0, 2, "y"), knows(0, 2, 0, 2, "y"))
	send(t, "process 2 hears y", p[2].Receive(knows(0, 2, 0, 2, "y")), acks(2, 0, 0, 2), knows(2, 1, 0, 2, "y"))
	delivers(t, "x is missing", p[2], 1)
	// Nobody has told process 2 about x yet, so it does not resend it.
	send(t, "Resend of process 2", p[2].Resend(), knows(2, 1, 0, 2, "y"))
	send(t, "Resend of process 0", p[0].Resend(), knows(0, 2, 0, 1, "x"), knows(0, 1, 0, 2, "y"), knows(0, 2, 0, 2, "y"))
	send(t, "process 2 hears x", p[2].Receive(knows(1, 2, 0, 1, "x")), acks(2, 0, 0, 1), acks(2, 1, 0, 1))
	delivers(t, "both at once", p[2], 0, delivery(0, 1, "x"), delivery(0, 2, "y"))
	if !p[2].Stable(0, 1) || p[2].Stable(0, 2) || p[0].Stable(0, 1) {
		t.Error("process 2 alone knows that all know x, and nobody that all know y")
	}
	send(t, "process 0 hears of process 2", p[0].Receive(acks(2, 0, 0, 1)))
	send(t, "Resend of process 0", p[0].Resend(), knows(0, 1, 0, 2, "y"), knows(0, 2, 0, 2, "y"))
	if !p[0].Stable(0, 1) || p[0].Stable(0, 2) {
		t.Error("process 0 knows that all know x, but not that all know y")
	}
}

// New: which groups and processes there are, and that a new process knows nothing.
func TestNew(t *testing.T) {
	numbers := []int{math.MinInt, -12, -1, 0, 1, 2, 3, 5, 11, 12, 13, 14, 64, 1 << 32, math.MaxInt}
	for _, n := range numbers {
		for _, process := range numbers {
			p, e := broadcast.New(n, process)
			want := api.ErrArgument
			if n >= 1 && n <= 12 && process >= 0 && process < n {
				want = api.OK
			}
			if e != want || (p != nil) != (e == api.OK) {
				t.Errorf("New(%d, %d): %d", n, process, e)
			}
			if p != nil {
				delivers(t, "a new process", p, 0)
				send(t, "Resend of a new process", p.Resend())
				if p.Stable(process, 1) || p.Stable(0, 0) {
					t.Error("something is stable at a new process")
				}
			}
		}
	}
}

// busy returns the process 1 of four, which knows broadcasts of all but process 3, and has made two.
func busy(t *testing.T) *broadcast.Process {
	t.Helper()
	p := made(t, 4, 1)
	p.Broadcast([]byte("a"))
	p.Broadcast([]byte("b"))
	p.Receive(acks(0, 1, 1, 1))
	p.Receive(acks(2, 1, 1, 1))
	p.Receive(knows(0, 1, 0, 1, "c"))
	p.Receive(knows(2, 1, 0, 1, "c"))
	p.Receive(knows(0, 1, 2, 2, ""))
	delivers(t, "a busy process", p, 2, delivery(1, 1, "a"), delivery(0, 1, "c"))
	return p
}

// isBusy checks that nothing has changed at a busy process.
func isBusy(t *testing.T, what string, p *broadcast.Process) {
	t.Helper()
	delivers(t, what, p, 2, delivery(1, 1, "a"), delivery(0, 1, "c"))
	send(t, what, p.Resend(), knows(1, 3, 0, 1, "c"), knows(1, 3, 1, 1, "a"), knows(1, 0, 1, 2, "b"), knows(1, 2, 1, 2, "b"), knows(1, 3, 1, 2, "b"), knows(1, 3, 2, 2, ""))
}

// P32.1 and rule 2: packets that are not proper, or do not fit, change nothing, and nothing is sent.
func TestImproper(t *testing.T) {
	p := busy(t)
	isBusy(t, "at first", p)
	packets := []api.Packet{
		// They are not for this process, or not from another one of the group.
		knows(0, 2, 0, 2, "d"), knows(0, 0, 0, 2, "d"), knows(0, -1, 0, 2, "d"), knows(1, 1, 0, 2, "d"), knows(4, 1, 0, 2, "d"), knows(-1, 1, 0, 2, "d"), acks(1, 1, 1, 2), acks(4, 1, 1, 2), acks(3, 2, 1, 2), acks(65, 1, 1, 2), acks(12, 1, 1, 2),
		// There is no such broadcast.
		knows(0, 1, 4, 1, "d"), knows(0, 1, -1, 1, "d"), knows(0, 1, math.MaxInt, 1, "d"), knows(0, 1, math.MinInt, 1, "d"), knows(0, 1, 12, 1, "d"), knows(0, 1, 0, 0, "d"), knows(0, 1, 0, -1, "d"), knows(0, 1, 0, api.MaxNumber+1, "d"), knows(0, 1, 0, math.MinInt, "d"), knows(0, 1, 0, math.MaxInt, "d"),
		// This process has not made it.
		knows(0, 1, 1, 3, "d"), knows(0, 1, 1, api.MaxNumber, "d"), knows(0, 1, 1, 0, "a"), acks(0, 1, 1, 3), acks(0, 1, 1, 0), acks(0, 1, 1, -1),
		// It is not noted.
		acks(0, 1, 0, 2), acks(3, 1, 2, 1), acks(3, 1, 3, 1), acks(3, 1, 0, api.MaxNumber),
		// The payload is another one.
		knows(3, 1, 0, 1, ""), knows(3, 1, 0, 1, "C"), knows(3, 1, 0, 1, "cc"), knows(3, 1, 1, 1, "b"), knows(3, 1, 2, 2, "\x00"), knows(3, 1, 1, 2, ""),
	}
	for _, kind := range []int{math.MinInt, -1, 0, 3, 4, math.MaxInt} {
		for _, m := range []api.Packet{knows(3, 1, 0, 1, "c"), knows(3, 1, 0, 2, "d"), acks(3, 1, 1, 2)} {
			m.Kind = kind
			packets = append(packets, m)
		}
	}
	// An Ack has no payload, not even the right one.
	m := knows(3, 1, 1, 2, "b")
	m.Kind = isAck
	packets = append(packets, m, api.Packet{})
	for _, m := range packets {
		if got := p.Receive(m); len(got) > 0 {
			t.Errorf("%+v is answered by %+v", m, got)
		}
		isBusy(t, "after an improper packet", p)
	}
	// The next numbers are what they were.
	send(t, "Broadcast", p.Broadcast([]byte("d")), knows(1, 0, 1, 3, "d"), knows(1, 2, 1, 3, "d"), knows(1, 3, 1, 3, "d"))
}

// Rules 3 and 4: who is told about what a process hears, and what it notes.
func TestReceive(t *testing.T) {
	p := made(t, 5, 2)
	send(t, "a Known of its origin", p.Receive(knows(4, 2, 4, 1, "x")), knows(2, 0, 4, 1, "x"), knows(2, 1, 4, 1, "x"), knows(2, 3, 4, 1, "x"), acks(2, 4, 4, 1))
	send(t, "a Known of another process", p.Receive(knows(3, 2, 0, 1, "y")), acks(2, 0, 0, 1), knows(2, 1, 0, 1, "y"), acks(2, 3, 0, 1), knows(2, 4, 0, 1, "y"))
	delivers(t, "two and three of five know them", p, 1, delivery(0, 1, "y"))
	send(t, "again", p.Receive(knows(3, 2, 0, 1, "y")), acks(2, 3, 0, 1))
	send(t, "of a third one", p.Receive(knows(4, 2, 0, 1, "y")), acks(2, 4, 0, 1))
	send(t, "Resend", p.Resend(), knows(2, 1, 0, 1, "y"), knows(2, 0, 4, 1, "x"), knows(2, 1, 4, 1, "x"), knows(2, 3, 4, 1, "x"))
	send(t, "an Ack", p.Receive(acks(0, 2, 4, 1)))
	delivers(t, "three of five know x", p, 0, delivery(0, 1, "y"), delivery(4, 1, "x"))
	// An Ack says of its sender alone that it knows the broadcast.
	p.Broadcast([]byte("z"))
	send(t, "a Known of a broadcast of its own", p.Receive(knows(1, 2, 2, 1, "z")), acks(2, 1, 2, 1))
	delivers(t, "two know z", p, 1, delivery(0, 1, "y"), delivery(4, 1, "x"))
	p.Receive(acks(1, 2, 2, 1))
	delivers(t, "still two know z", p, 1, delivery(0, 1, "y"), delivery(4, 1, "x"))
	p.Receive(acks(0, 2, 2, 1))
	delivers(t, "three know z", p, 0, delivery(0, 1, "y"), delivery(4, 1, "x"), delivery(2, 1, "z"))
	send(t, "the greatest number", p.Receive(knows(0, 2, 0, api.MaxNumber, "")), acks(2, 0, 0, api.MaxNumber), knows(2, 1, 0, api.MaxNumber, ""), knows(2, 3, 0, api.MaxNumber, ""), knows(2, 4, 0, api.MaxNumber, ""))
}

// Rule 5: in groups of all sizes, a broadcast is delivered as soon as more than half of the processes know it, and it is stable when all do.
func TestMajority(t *testing.T) {
	for n := 2; n <= api.MaxReplicas; n++ {
		p := made(t, n, n-1)
		p.Broadcast([]byte("x"))
		for i := range n - 1 {
			if got := len(p.Delivered()); (got == 1) != (2*(i+1) > n) || p.Stable(n-1, 1) || p.Waiting() != 1-got {
				t.Fatalf("%d deliveries of what %d of %d processes know", got, i+1, n)
			}
			if got := p.Resend(); len(got) != n-1-i || got[0].To != i {
				t.Fatalf("Resend, if %d of %d processes know the broadcast: %+v", i+1, n, got)
			}
			p.Receive(acks(i, n-1, n-1, 1))
		}
		if !p.Stable(n-1, 1) || len(p.Resend()) > 0 || len(p.Delivered()) != 1 {
			t.Fatalf("all %d processes know it", n)
		}
	}
}

// Rule 5: what comes before its turn is delivered in order as soon as the missing one is known by enough.
func TestTurns(t *testing.T) {
	p := made(t, 3, 2)
	for number := 40; number >= 2; number-- {
		p.Receive(knows(0, 2, 0, number, strings.Repeat("x", number)))
		p.Receive(knows(0, 2, 1, 2*number, "never"))
		if len(p.Delivered()) > 0 || p.Waiting() != 2*(41-number) {
			t.Fatalf("%d wait", p.Waiting())
		}
	}
	p.Receive(knows(1, 2, 0, 1, "x"))
	list := p.Delivered()
	if len(list) != 40 || p.Waiting() != 39 {
		t.Fatalf("%d deliveries, and %d wait", len(list), p.Waiting())
	}
	for i, d := range list {
		if d.Origin != 0 || d.Number != i+1 || len(d.Payload) != i+1 {
			t.Errorf("the delivery %d is %+v", i, d)
		}
	}
}

// P32.1: Stable, of anything.
func TestStable(t *testing.T) {
	p := busy(t)
	p.Receive(acks(3, 1, 1, 1))
	for _, origin := range []int{math.MinInt, -1, 0, 1, 2, 3, 4, math.MaxInt} {
		for _, number := range []int{math.MinInt, -1, 0, 1, 2, 3, api.MaxNumber, math.MaxInt} {
			if got := p.Stable(origin, number); got != (origin == 1 && number == 1) {
				t.Errorf("Stable(%d, %d): %t", origin, number, got)
			}
		}
	}
}

// Payloads that are passed in or returned share no memory with the process, or with each other.
func TestMemory(t *testing.T) {
	p := made(t, 4, 1)
	own, heard := []byte("own"), knows(0, 1, 0, 1, "heard")
	var results []any
	add := func(list []api.Packet) { results = append(results, list) }
	add(p.Broadcast(own))
	add(p.Receive(heard))
	again := knows(2, 1, 0, 1, "heard")
	add(p.Receive(again))
	p.Receive(acks(0, 1, 1, 1))
	p.Receive(acks(2, 1, 1, 1))
	add(p.Resend())
	add(p.Resend())
	results = append(results, p.Delivered(), p.Delivered(), own, heard, again)
	if !sample.Separate(results...) {
		t.Fatal("payloads share memory")
	}
	check := func(what string) {
		t.Helper()
		delivers(t, what, p, 0, delivery(0, 1, "heard"), delivery(1, 1, "own"))
		send(t, what, p.Resend(), knows(1, 3, 0, 1, "heard"), knows(1, 3, 1, 1, "own"))
	}
	check("at first")
	if string(own) != "own" || string(heard.Payload) != "heard" || string(again.Payload) != "heard" {
		t.Error("payloads are changed")
	}
	for _, b := range [][]byte{own, heard.Payload, again.Payload} {
		clear(b)
	}
	for _, x := range results {
		switch x := x.(type) {
		case []api.Packet:
			for _, m := range x {
				clear(m.Payload)
			}
		case []api.Delivery:
			for _, d := range x {
				clear(d.Payload)
			}
		}
	}
	check("payloads were changed")
}

// P1: the functions of the zero Process, which is in no group, do not panic.
func TestZeroProcess(t *testing.T) {
	var p broadcast.Process
	for range 2 {
		p.Broadcast([]byte("x"))
		for _, m := range []api.Packet{{}, knows(0, 0, 0, 1, ""), knows(1, 0, 0, 1, ""), knows(1, 0, 1, 1, ""), acks(1, 0, 0, 1), acks(-1, 0, 0, 0)} {
			send(t, "a packet to the zero Process", p.Receive(m))
		}
	}
	send(t, "Resend of the zero Process", p.Resend())
	if p.Stable(0, 1) {
		t.Error("something is stable")
	}
	delivers(t, "the zero Process", &p, 0)
}

// Many broadcasts: what is stable takes no time any more, so Resend can be called after each of them.
func TestMany(t *testing.T) {
	const count = 30000
	p := group(t, 2)
	for i := 1; i <= count; i++ {
		payload := []byte{byte(i), byte(i >> 8)}
		for _, m := range p[0].Broadcast(payload) {
			for _, answer := range p[1].Receive(m) {
				p[0].Receive(answer)
			}
		}
		if len(p[0].Resend()) > 0 || len(p[1].Resend()) > 0 || !p[0].Stable(0, i) || !p[1].Stable(0, i) || p[0].Waiting() > 0 {
			t.Fatalf("the broadcast %d is not stable", i)
		}
	}
	for _, x := range p {
		list := x.Delivered()
		if len(list) != count || list[count-1].Number != count || list[count-1].Payload[0] != byte(count&0xff) {
			t.Fatalf("%d deliveries", len(list))
		}
	}
}
