package net_test

import (
	"math"
	"math/rand"
	"reflect"
	"testing"

	"plexus/api"
	"plexus/copies"
	"plexus/net"
	"plexus/sample"
)

// P28.1 to P28.3: the example.
func TestExample(t *testing.T) {
	n := made(t, 10)
	for i := 1; i <= 2; i++ {
		n.Send(api.Message{From: 0, To: 1, Seq: i})
	}
	is(t, "two messages", n, []int{1, 2}, []int{1, 2}, [5]int{2, 0, 0, 0, 2})
	if number, e := n.Duplicate(1); number != 3 || e != api.OK {
		t.Errorf("Duplicate: %d, %d", number, e)
	}
	if e := n.Partition([][]int{{0}, {1, 2}}); e != api.OK {
		t.Errorf("Partition: %d", e)
	}
	if m, e := n.Deliver(1); e != api.ErrState || !same(m, api.Message{}) {
		t.Errorf("Deliver: %d", e)
	}
	is(t, "separated", n, []int{1, 2, 3}, nil, [5]int{2, 1, 0, 0, 3})
	between := n.Copy()
	between.Send(api.Message{From: 1, To: 2, Seq: 4})
	if m, e := between.Deliver(4); e != api.OK || m.Seq != 4 {
		t.Errorf("Deliver from 1 to 2: %d", e)
	}
	n.Heal()
	if m, e := n.Deliver(1); e != api.OK || !same(m, api.Message{From: 0, To: 1, Seq: 1}) {
		t.Errorf("Deliver: %+v, %d", m, e)
	}
	if e := n.Drop(2); e != api.OK {
		t.Errorf("Drop: %d", e)
	}
	is(t, "in the end", n, []int{3}, []int{3}, [5]int{2, 1, 1, 1, 1})
	if _, e := n.Deliver(1); e != api.ErrNone {
		t.Errorf("Deliver again: %d", e)
	}
}

// New: which limits there are.
func TestNew(t *testing.T) {
	for limit, want := range map[int]api.Errno{
		1: api.OK, 2: api.OK, 4096: api.OK, 65536: api.OK,
		0: api.ErrArgument, -1: api.ErrArgument, 65537: api.ErrArgument, 1 << 32: api.ErrArgument, math.MaxInt: api.ErrArgument, math.MinInt: api.ErrArgument,
	} {
		n, e := net.New(limit)
		if e != want || (n != nil) != (e == api.OK) {
			t.Errorf("New(%d): %d instead of %d", limit, e, want)
		}
		if e == api.OK {
			is(t, "a new network", n, nil, nil, [5]int{})
		}
	}
}

// Send: which processes there are; what is refused changes nothing, and takes no number.
func TestSend(t *testing.T) {
	n, want := made(t, 1000), 0
	for _, from := range []int{math.MinInt, -1, 0, 1, 5, 16, 62, 63, 64, math.MaxInt} {
		for _, to := range []int{math.MinInt, -1, 0, 1, 5, 16, 62, 63, 64, math.MaxInt} {
			number, e := n.Send(api.Message{From: from, To: to})
			switch {
			case from < 0 || from > 63 || to < 0 || to > 63:
				if number != 0 || e != api.ErrArgument {
					t.Errorf("Send from %d to %d: %d, %d", from, to, number, e)
				}
			default:
				want++
				if number != want || e != api.OK {
					t.Errorf("Send from %d to %d: %d, %d", from, to, number, e)
				}
			}
			if got := n.Counts(); got != [5]int{want, 0, 0, 0, want} {
				t.Errorf("the counts are %v", got)
			}
		}
	}
}

// P28.1: messages of all kinds, with something in all fields, are returned as they were sent, any number of times.
func TestFields(t *testing.T) {
	source := rand.New(rand.NewSource(1))
	for range 200 {
		n, m := made(t, 10), sample.AnyMessage(source.Intn)
		was := copies.Message(m)
		number, _ := n.Send(m)
		twice, _ := n.Duplicate(number)
		for _, i := range []int{number, twice, number} {
			if got, e := n.Peek(i); e != api.OK || !same(got, was) {
				t.Fatalf("Peek: %+v, %d instead of %+v", got, e, was)
			}
		}
		for _, i := range []int{twice, number} {
			if got, e := n.Deliver(i); e != api.OK || !same(got, was) {
				t.Fatalf("Deliver: %+v, %d instead of %+v", got, e, was)
			}
		}
		if !same(m, was) {
			t.Fatal("the message that was sent is changed")
		}
	}
}

// P28.1: numbers are never used again, whatever happens to the messages.
func TestNumbers(t *testing.T) {
	n := sent(t, 3)
	n.Deliver(3)
	if number, e := n.Send(api.Message{Seq: 4}); number != 4 || e != api.OK {
		t.Errorf("Send: %d, %d", number, e)
	}
	n.Drop(4)
	if number, e := n.Duplicate(1); number != 5 || e != api.OK {
		t.Errorf("Duplicate: %d, %d", number, e)
	}
	for _, i := range []int{1, 2, 5} {
		n.Drop(i)
	}
	is(t, "nothing is left", n, nil, nil, [5]int{4, 1, 1, 4, 0})
	if number, e := n.Send(api.Message{}); number != 6 || e != api.OK {
		t.Errorf("Send: %d, %d", number, e)
	}
	is(t, "one more", n, []int{6}, []int{6}, [5]int{5, 1, 1, 4, 1})
}

// The errors of all functions, in the order of the table; nothing changes.
func TestErrors(t *testing.T) {
	n := sent(t, 3)
	n.Partition([][]int{{1, 2}, {3, 4}})
	check := func(what string, e, want api.Errno) {
		t.Helper()
		if e != want {
			t.Errorf("%s: %d instead of %d", what, e, want)
		}
		is(t, what, n, []int{1, 2, 3}, []int{1, 3}, [5]int{3, 0, 0, 0, 3})
	}
	for _, number := range []int{math.MinInt, -1, 0, 4, 5, math.MaxInt} {
		m, e := n.Peek(number)
		check("Peek", e, api.ErrNone)
		k, e := n.Deliver(number)
		check("Deliver", e, api.ErrNone)
		check("Drop", n.Drop(number), api.ErrNone)
		// The network is full, but there is no such message.
		twice, e := n.Duplicate(number)
		check("Duplicate", e, api.ErrNone)
		if !same(m, api.Message{}) || !same(k, api.Message{}) || twice != 0 {
			t.Errorf("a result with an error: %+v, %+v, %d", m, k, twice)
		}
	}
	for _, m := range []api.Message{{From: 64}, {To: 64}, {From: -1, To: 1}, {From: 1, To: math.MinInt}} {
		_, e := n.Send(m)
		check("Send from or to no process into a full network", e, api.ErrArgument)
	}
	number, e := n.Send(api.Message{})
	check("Send into a full network", e, api.ErrFull)
	twice, e := n.Duplicate(2)
	check("Duplicate in a full network", e, api.ErrFull)
	m, e := n.Deliver(2)
	check("Deliver to a process that is not connected", e, api.ErrState)
	if number != 0 || twice != 0 || !same(m, api.Message{}) {
		t.Errorf("a result with an error: %d, %d, %+v", number, twice, m)
	}
}

// P28.1: only Deliver asks whether processes are connected.
func TestSeparated(t *testing.T) {
	n := sent(t, 10)
	n.Partition(nil)
	if m, e := n.Peek(2); e != api.OK || m.Seq != 2 {
		t.Errorf("Peek: %+v, %d", m, e)
	}
	if number, e := n.Send(api.Message{From: 5, To: 6}); number != 4 || e != api.OK {
		t.Errorf("Send: %d, %d", number, e)
	}
	if number, e := n.Duplicate(1); number != 5 || e != api.OK {
		t.Errorf("Duplicate: %d, %d", number, e)
	}
	if e := n.Drop(2); e != api.OK {
		t.Errorf("Drop: %d", e)
	}
	is(t, "separated", n, []int{1, 3, 4, 5}, nil, [5]int{4, 1, 0, 1, 4})
	n.Heal()
	is(t, "healed", n, []int{1, 3, 4, 5}, []int{1, 3, 4, 5}, [5]int{4, 1, 0, 1, 4})
}

// Send and Duplicate: as many messages are under way as the limit says, and not one more.
func TestLimit(t *testing.T) {
	for _, limit := range []int{1, 2, 3, 65536} {
		n := made(t, limit)
		for i := 1; i <= limit; i++ {
			if number, e := n.Send(api.Message{Seq: i}); number != i || e != api.OK {
				t.Fatalf("Send with the limit %d: %d, %d", limit, number, e)
			}
		}
		for range 3 {
			_, sendError := n.Send(api.Message{})
			_, duplicateError := n.Duplicate(limit)
			if sendError != api.ErrFull || duplicateError != api.ErrFull {
				t.Errorf("the limit %d: %d and %d", limit, sendError, duplicateError)
			}
		}
		// The first message makes room for a message again, and so does this one.
		if m, e := n.Deliver(1); e != api.OK || m.Seq != 1 {
			t.Errorf("Deliver: %+v, %d", m, e)
		}
		if number, e := n.Send(api.Message{}); number != limit+1 || e != api.OK {
			t.Errorf("Send: %d, %d", number, e)
		}
		n.Drop(limit + 1)
		if number, e := n.Duplicate(limit); limit > 1 && (number != limit+2 || e != api.OK) {
			t.Errorf("Duplicate: %d, %d", number, e)
		}
		if got := n.Pending(); limit > 1 && (len(got) != limit || got[0] != 2 || got[limit-1] != limit+2) {
			t.Errorf("%d messages are under way", len(got))
		}
	}
}

// P28.4: nothing that is passed in or returned shares memory with the network, or with another result.
func TestMemory(t *testing.T) {
	source := rand.New(rand.NewSource(2))
	for range 100 {
		n, m := made(t, 10), sample.AnyMessage(source.Intn)
		was := copies.Message(m)
		n.Send(m)
		n.Duplicate(1)
		c := n.Copy()
		returned := []api.Message{m}
		for _, x := range []*net.Net{n, c, n.Copy(), c.Copy()} {
			for number := 1; number <= 2; number++ {
				one, _ := x.Peek(number)
				returned = append(returned, one)
			}
			one, _ := x.Deliver(2)
			returned = append(returned, one)
		}
		all := make([]any, len(returned))
		for i, x := range returned {
			all[i] = x
		}
		if !sample.Separate(all...) {
			t.Fatal("messages share memory")
		}
		for _, x := range returned {
			if scribble(reflect.ValueOf(x)) < 20 {
				t.Fatal("hardly anything to change")
			}
			if got, e := n.Peek(1); e != api.OK || !same(got, was) {
				t.Fatal("the network has changed")
			}
			if got, e := c.Peek(1); e != api.OK || !same(got, was) {
				t.Fatal("the copy has changed")
			}
		}
	}
}

// The rules: lists of numbers and groups are neither kept nor shared.
func TestLists(t *testing.T) {
	n := sent(t, 10)
	for _, list := range [][]int{n.Pending(), n.Deliverable()} {
		list[0] = 99
	}
	is(t, "lists were changed", n, []int{1, 2, 3}, []int{1, 2, 3}, [5]int{3, 0, 0, 0, 3})
	groups := [][]int{{1, 2}, {3, 4}}
	n.Partition(groups)
	groups[0][1], groups[1] = 3, nil
	is(t, "groups were changed", n, []int{1, 2, 3}, []int{1, 3}, [5]int{3, 0, 0, 0, 3})
	groups = [][]int{{4, 3}, {2, 1}}
	n.Partition(groups)
	if !reflect.DeepEqual(groups, [][]int{{4, 3}, {2, 1}}) {
		t.Errorf("Partition changes the groups: %v", groups)
	}
}

// P28.4: what happens to a network does not affect its copy, nor the other way round.
func TestCopy(t *testing.T) {
	changes := []func(n *net.Net){
		func(n *net.Net) { n.Send(api.Message{}) },
		func(n *net.Net) { n.Duplicate(2) },
		func(n *net.Net) { n.Deliver(1) },
		func(n *net.Net) { n.Drop(3) },
		func(n *net.Net) { n.Heal() },
		func(n *net.Net) { n.Partition([][]int{{2, 3}}) },
	}
	for i, change := range changes {
		for _, ofCopy := range []bool{false, true} {
			n := sent(t, 5)
			n.Duplicate(1)
			n.Drop(4)
			n.Partition([][]int{{1, 2}, {3, 4}})
			c := n.Copy()
			is(t, "the copy", c, []int{1, 2, 3}, []int{1, 3}, [5]int{3, 1, 0, 1, 3})
			changed, other := n, c
			if ofCopy {
				changed, other = c, n
			}
			change(changed)
			is(t, "the other one", other, []int{1, 2, 3}, []int{1, 3}, [5]int{3, 1, 0, 1, 3})
			if reflect.DeepEqual(changed.Pending(), other.Pending()) && reflect.DeepEqual(changed.Deliverable(), other.Deliverable()) {
				t.Errorf("the change %d has no effect", i)
			}
			// The next number and the limit are those of the network.
			if number, e := other.Send(api.Message{}); number != 5 || e != api.OK {
				t.Errorf("Send: %d, %d", number, e)
			}
			if number, e := other.Send(api.Message{}); number != 6 || e != api.OK {
				t.Errorf("Send: %d, %d", number, e)
			}
			if _, e := other.Send(api.Message{}); e != api.ErrFull {
				t.Errorf("Send: %d", e)
			}
		}
	}
	if c := sent(t, 5).Copy(); !c.Connected(1, 5) || !c.Connected(60, 61) {
		t.Error("a copy of a network without groups")
	}
}

// P1: nothing can be under way in the zero Net; its functions do not panic.
func TestZeroNet(t *testing.T) {
	var n net.Net
	if _, e := n.Send(api.Message{}); e == api.OK {
		t.Error("the zero Net sends")
	}
	for _, x := range []*net.Net{&n, n.Copy()} {
		_, peekError := x.Peek(1)
		_, deliverError := x.Deliver(1)
		_, duplicateError := x.Duplicate(1)
		if peekError != api.ErrNone || deliverError != api.ErrNone || duplicateError != api.ErrNone || x.Drop(1) != api.ErrNone {
			t.Error("a message of the zero Net")
		}
		x.Partition([][]int{{1}})
		x.Heal()
		is(t, "the zero Net", x, nil, nil, [5]int{})
	}
}
