package net_test

import (
	"reflect"
	"slices"
	"testing"

	"plexus/api"
	"plexus/net"
)

// made returns a new network.
func made(t *testing.T, limit int) *net.Net {
	t.Helper()
	n, e := net.New(limit)
	if e != api.OK || n == nil {
		t.Fatalf("New(%d): %d", limit, e)
	}
	return n
}

// sent returns a network of three messages: the number i is from process i to process i + 1, with the Seq i.
func sent(t *testing.T, limit int) *net.Net {
	t.Helper()
	n := made(t, limit)
	for i := 1; i <= 3; i++ {
		if number, e := n.Send(api.Message{Kind: api.MsgFill, From: i, To: i + 1, Seq: i}); number != i || e != api.OK {
			t.Fatalf("Send: %d, %d", number, e)
		}
	}
	return n
}

// is checks what a network tells of its messages: which are under way, which could be delivered, and the counts.
func is(t *testing.T, what string, n *net.Net, pending, deliverable []int, counts [5]int) {
	t.Helper()
	if got := n.Pending(); !slices.Equal(got, pending) {
		t.Fatalf("%s: under way are %v instead of %v", what, got, pending)
	}
	if got := n.Deliverable(); !slices.Equal(got, deliverable) {
		t.Fatalf("%s: deliverable are %v instead of %v", what, got, deliverable)
	}
	if got := n.Counts(); got != counts {
		t.Fatalf("%s: the counts are %v instead of %v", what, got, counts)
	}
}

// same reports whether two messages are equal.
func same(a, b api.Message) bool { return reflect.DeepEqual(a, b) }

// scribble changes everything in the slices of a value, and returns how many places it has changed.
func scribble(v reflect.Value) int {
	count := 0
	switch v.Kind() {
	case reflect.Struct:
		for i := range v.NumField() {
			count += scribble(v.Field(i))
		}
	case reflect.Slice:
		for i := range v.Len() {
			count += scribble(v.Index(i)) + overwrite(v.Index(i))
		}
	}
	return count
}

// overwrite changes an element of a slice, or the first field of it, and returns 1.
func overwrite(v reflect.Value) int {
	switch v.Kind() {
	case reflect.Struct:
		for i := range v.NumField() {
			overwrite(v.Field(i))
		}
	case reflect.Int:
		v.SetInt(v.Int() + 1)
	case reflect.Uint8:
		v.SetUint(v.Uint() + 1)
	case reflect.String:
		v.SetString(v.String() + "?")
	case reflect.Bool:
		v.SetBool(!v.Bool())
	case reflect.Slice:
		v.SetZero()
	}
	return 1
}
