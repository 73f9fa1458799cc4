package buffer_test

import (
	"math"
	"slices"
	"testing"

	"monocoque/api"
	"monocoque/buffer"
)

const nobody = -1

// farIds are ids at the far ends of those that may be.
var farIds = []int{0, 1, 63, 64, 1 << 32, math.MaxInt - 1, math.MaxInt}

// wrongIds are none.
var wrongIds = []int{math.MinInt, math.MinInt + 1, -1 << 32, -64, -2, -1}

// farPriorities are priorities, which may be any numbers.
var farPriorities = []int{math.MinInt, -65, -1, 0, 1, 63, 64, 1 << 32, math.MaxInt}

// of returns a buffer, whose numbers may be.
func of(t *testing.T, words, room int, byPriority bool) *buffer.Buffer {
	t.Helper()
	b, e := buffer.New(words, room, byPriority)
	if e != api.OK || b == nil {
		t.Fatalf("New(%d, %d, %v) = %v, %d", words, room, byPriority, b, e)
	}
	return b
}

// equal tells whether two Dones are the same.
func equal(a, b buffer.Done) bool {
	return a.Now == b.Now && a.Woken == b.Woken && slices.Equal(a.M, b.M)
}

// enters sends messages for which there is room.
func enters(t *testing.T, b *buffer.Buffer, id int, l ...[]uint32) {
	t.Helper()
	for _, m := range l {
		if d, e := b.Send(id, 5, m); e != api.OK || !equal(d, buffer.Done{Now: true, Woken: nobody}) {
			t.Fatalf("Send(%d, 5, %v) = %v, %d, want that it enters", id, m, d, e)
		}
	}
}

// reaches sends a message that a waiting receiver gets.
func reaches(t *testing.T, b *buffer.Buffer, id, receiver int, m ...uint32) {
	t.Helper()
	if d, e := b.Send(id, 5, m); e != api.OK || !equal(d, buffer.Done{Now: true, M: m, Woken: receiver}) {
		t.Fatalf("Send(%d, 5, %v) = %v, %d, want that %d gets it", id, m, d, e, receiver)
	}
}

// stays sends a message for which there is no room, so that its sender waits.
func stays(t *testing.T, b *buffer.Buffer, id, priority int, m ...uint32) {
	t.Helper()
	if d, e := b.Send(id, priority, m); e != api.OK || !equal(d, buffer.Done{Woken: nobody}) {
		t.Fatalf("Send(%d, %d, %v) = %v, %d, want that it waits", id, priority, m, d, e)
	}
}

// gets receives a message, which wakes a sender or nobody.
func gets(t *testing.T, b *buffer.Buffer, id, sender int, m ...uint32) {
	t.Helper()
	if d, e := b.Receive(id, 5); e != api.OK || !equal(d, buffer.Done{Now: true, M: m, Woken: sender}) {
		t.Fatalf("Receive(%d, 5) = %v, %d, want %v and %d", id, d, e, m, sender)
	}
}

// asks receives where there is no message, so that the receiver waits.
func asks(t *testing.T, b *buffer.Buffer, id, priority int) {
	t.Helper()
	if d, e := b.Receive(id, priority); e != api.OK || !equal(d, buffer.Done{Woken: nobody}) {
		t.Fatalf("Receive(%d, %d) = %v, %d, want that it waits", id, priority, d, e)
	}
}

// refuses tells whether a call, Send with a message or Receive without, is an error that changes nothing.
func refuses(t *testing.T, b *buffer.Buffer, want api.Errno, id, priority int, l ...[]uint32) {
	t.Helper()
	before := b.Clone()
	for _, m := range l {
		if d, e := b.Send(id, priority, m); e != want || !equal(d, buffer.Done{}) || d.M != nil || !b.Same(before) {
			t.Errorf("Send(%d, %d, %v) = %v, %d, want %d", id, priority, m, d, e, want)
		}
	}
	if len(l) > 0 {
		return
	}
	if d, e := b.Receive(id, priority); e != want || !equal(d, buffer.Done{}) || d.M != nil || !b.Same(before) {
		t.Errorf("Receive(%d, %d) = %v, %d, want %d", id, priority, d, e, want)
	}
}

// holds tells whether a buffer contains these messages.
func holds(t *testing.T, b *buffer.Buffer, want ...[]uint32) {
	t.Helper()
	if got := b.All(); !slices.EqualFunc(got, want, slices.Equal[[]uint32]) {
		t.Errorf("All() = %v, want %v", got, want)
	}
	if got := b.Len(); got != len(want) {
		t.Errorf("Len() = %d, want %d", got, len(want))
	}
}

// line tells whether these ids wait, as senders or as receivers.
func line(t *testing.T, b *buffer.Buffer, senders bool, want ...int) {
	t.Helper()
	got, are := b.Waiting()
	if !slices.Equal(got, want) || are != (senders && len(want) > 0) {
		t.Errorf("Waiting() = %v, %v, want %v, %v", got, are, want, senders)
	}
}

// full returns a buffer without room, all messages of which are 1.
func full(t *testing.T, words, room int, byPriority bool) *buffer.Buffer {
	t.Helper()
	b := of(t, words, room, byPriority)
	for range room {
		enters(t, b, 0, []uint32{1})
	}
	return b
}

// both calls f for each kind of order.
func both(f func(byPriority bool)) {
	f(false)
	f(true)
}

// spoil overwrites a list with all memory that belongs to it.
func spoil[T any](l []T) {
	clear(l[:cap(l)])
}
