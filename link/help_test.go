package link_test

import (
	"math"
	"slices"
	"testing"

	"monocoque/api"
	"monocoque/link"
)

const last = 1 << 40 // the last tick

// noTicks are numbers that are no ticks.
var noTicks = []int{math.MinInt, math.MinInt + 1, -last, -256, -1, last + 1, last + 256, 1 << 41, math.MaxInt - 1, math.MaxInt}

// sender returns a sender, whose numbers may be.
func sender(t *testing.T, gap, words, room int, l ...[]uint32) *link.Sender {
	t.Helper()
	s, e := link.NewSender(gap, words, room)
	if e != api.OK || s == nil {
		t.Fatalf("NewSender(%d, %d, %d) = %v, %d", gap, words, room, s, e)
	}
	offers(t, s, l...)
	return s
}

// receiver returns a receiver, whose number may be.
func receiver(t *testing.T, words int) *link.Receiver {
	t.Helper()
	r, e := link.NewReceiver(words)
	if e != api.OK || r == nil {
		t.Fatalf("NewReceiver(%d) = %v, %d", words, r, e)
	}
	return r
}

// ones returns messages of one word each.
func ones(words ...uint32) (l [][]uint32) {
	for _, w := range words {
		l = append(l, []uint32{w})
	}
	return l
}

// offers offers messages for which there is room.
func offers(t *testing.T, s *link.Sender, l ...[]uint32) {
	t.Helper()
	for _, m := range l {
		n := s.Waiting()
		if e := s.Offer(m); e != api.OK || s.Waiting() != n+1 {
			t.Fatalf("Offer(%v) = %d, and %d wait after %d", m, e, s.Waiting(), n)
		}
	}
}

// refuses offers what is an error that changes nothing.
func refuses(t *testing.T, s *link.Sender, want api.Errno, m ...uint32) {
	t.Helper()
	before := s.Clone()
	if e := s.Offer(m); e != want || !s.Same(before) {
		t.Errorf("Offer(%v) = %d, want %d", m, e, want)
	}
}

// sends sends a message.
func sends(t *testing.T, s *link.Sender, now, number int, m ...uint32) {
	t.Helper()
	n := s.Waiting()
	if f, is := s.Step(now); !is || f.Number != number || !slices.Equal(f.Words, m) || s.Waiting() != n-1 {
		t.Fatalf("Step(%d) = %v, %v, want %d %v; %d wait after %d", now, f, is, number, m, s.Waiting(), n)
	}
}

// rests sends nothing, with which nothing changes.
func rests(t *testing.T, s *link.Sender, ticks ...int) {
	t.Helper()
	before := s.Clone()
	for _, now := range ticks {
		if f, is := s.Step(now); is || f.Number != 0 || f.Words != nil || !s.Same(before) {
			t.Fatalf("Step(%d) = %v, %v", now, f, is)
		}
	}
}

// takes takes a frame, whose message is returned.
func takes(t *testing.T, r *link.Receiver, net, number int, m ...uint32) {
	t.Helper()
	if got, is, e := r.Take(net, link.Frame{Number: number, Words: m}); !is || e != api.OK || !slices.Equal(got, m) {
		t.Fatalf("Take(%d, %d %v) = %v, %v, %d", net, number, m, got, is, e)
	}
}

// fails takes what is an error that changes nothing.
func fails(t *testing.T, r *link.Receiver, want api.Errno, net, number int, m ...uint32) {
	t.Helper()
	before := r.Clone()
	if got, is, e := r.Take(net, link.Frame{Number: number, Words: m}); got != nil || is || e != want || !r.Same(before) {
		t.Errorf("Take(%d, %d %v) = %v, %v, %d, want %d", net, number, m, got, is, e, want)
	}
}

// lost tells whether so many frames were lost.
func lost(t *testing.T, r *link.Receiver, want int) {
	t.Helper()
	if n := r.Lost(); n != want {
		t.Errorf("Lost() = %d, want %d", n, want)
	}
}

// spoil overwrites a list with all memory that belongs to it.
func spoil[T any](l []T) { clear(l[:cap(l)]) }
