package queuing_test

import (
	"slices"
	"testing"

	"monocoque/api"
	"monocoque/queuing"
)

// of returns a queue, whose numbers may be.
func of(t *testing.T, words, room int) *queuing.Queue {
	t.Helper()
	q, e := queuing.New(words, room)
	if e != api.OK || q == nil {
		t.Fatalf("New(%d, %d) = %v, %d", words, room, q, e)
	}
	return q
}

// with returns a queue that contains these messages, of at most 3 words each.
func with(t *testing.T, room int, l ...[]uint32) *queuing.Queue {
	t.Helper()
	q := of(t, 3, room)
	sends(t, q, l...)
	return q
}

// ones returns messages of one word each.
func ones(words ...uint32) (l [][]uint32) {
	for _, w := range words {
		l = append(l, []uint32{w})
	}
	return l
}

func equal(a, b [][]uint32) bool { return slices.EqualFunc(a, b, slices.Equal[[]uint32]) }

// sends sends messages for which there is room.
func sends(t *testing.T, q *queuing.Queue, l ...[]uint32) {
	t.Helper()
	for _, m := range l {
		if e := q.Send(m); e != api.OK {
			t.Fatalf("Send(%v) = %d", m, e)
		}
	}
}

// pushes pushes messages for which there is room.
func pushes(t *testing.T, q *queuing.Queue, l ...[]uint32) {
	t.Helper()
	for _, m := range l {
		if e := q.Push(m); e != api.OK {
			t.Fatalf("Push(%v) = %d", m, e)
		}
	}
}

// loses pushes messages for which there is no room.
func loses(t *testing.T, q *queuing.Queue, l ...[]uint32) {
	t.Helper()
	for _, m := range l {
		before := q.All()
		if e := q.Push(m); e != api.ErrLost {
			t.Fatalf("Push(%v) = %d, want ErrLost", m, e)
		}
		if !equal(q.All(), before) {
			t.Errorf("Push(%v), which is lost, changes the messages", m)
		}
	}
}

// puts puts messages back for which there is room.
func puts(t *testing.T, q *queuing.Queue, l ...[]uint32) {
	t.Helper()
	if e := q.Back(l); e != api.OK {
		t.Fatalf("Back(%v) = %d", l, e)
	}
}

// refuses tells whether a call is an error that changes nothing.
func refuses(t *testing.T, q *queuing.Queue, want api.Errno, call func() api.Errno) {
	t.Helper()
	before := q.Clone()
	if e := call(); e != want || !q.Same(before) {
		t.Errorf("the error is %d, want %d", e, want)
	}
}

// gets receives a message.
func gets(t *testing.T, q *queuing.Queue, lost bool, want ...uint32) {
	t.Helper()
	if m, is, was := q.Receive(); !is || was != lost || !slices.Equal(m, want) {
		t.Fatalf("Receive() = %v, %v, %v, want %v, %v", m, is, was, want, lost)
	}
}

// nothing receives where there is no message.
func nothing(t *testing.T, q *queuing.Queue, lost bool) {
	t.Helper()
	if m, is, was := q.Receive(); m != nil || is || was != lost {
		t.Fatalf("Receive() = %v, %v, %v, want nothing, %v", m, is, was, lost)
	}
}

// drains drains these messages.
func drains(t *testing.T, q *queuing.Queue, want ...[]uint32) {
	t.Helper()
	if got := q.Drain(); !equal(got, want) {
		t.Errorf("Drain() = %v, want %v", got, want)
	}
}

// holds tells whether a queue contains these messages and has room for so many more.
func holds(t *testing.T, q *queuing.Queue, free int, want ...[]uint32) {
	t.Helper()
	if got := q.All(); !equal(got, want) {
		t.Errorf("All() = %v, want %v", got, want)
	}
	if got := q.Free(); got != free {
		t.Errorf("Free() = %d, want %d", got, free)
	}
}

// spoil overwrites a list with all memory that belongs to it.
func spoil[T any](l []T) {
	clear(l[:cap(l)])
}
