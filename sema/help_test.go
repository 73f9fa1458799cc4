package sema_test

import (
	"math"
	"slices"
	"testing"

	"monocoque/api"
	"monocoque/sema"
)

// farNumbers are ids and priorities, which may be any numbers.
var farNumbers = []int{math.MinInt, math.MinInt + 1, -65, -1, 0, 1, 63, 64, 1 << 32, math.MaxInt - 1, math.MaxInt}

// of returns a semaphore, whose numbers may be.
func of(t *testing.T, first, most int, byPriority bool) *sema.Sema {
	t.Helper()
	s, e := sema.New(first, most, byPriority)
	if e != api.OK || s == nil {
		t.Fatalf("New(%d, %d, %v) = %v, %d", first, most, byPriority, s, e)
	}
	return s
}

// gets lets ids wait, all of which get what they wait for.
func gets(t *testing.T, s *sema.Sema, ids ...int) {
	t.Helper()
	for _, id := range ids {
		if !s.Wait(id, 5) {
			t.Fatalf("Wait(%d, 5) = false", id)
		}
	}
}

// waits lets an id wait, which has to.
func waits(t *testing.T, s *sema.Sema, id, priority int) {
	t.Helper()
	if s.Wait(id, priority) {
		t.Fatalf("Wait(%d, %d) = true", id, priority)
	}
}

// wakes signals, which wakes these ids, one each time.
func wakes(t *testing.T, s *sema.Sema, ids ...int) {
	t.Helper()
	for _, id := range ids {
		if woken, is, e := s.Signal(); woken != id || !is || e != api.OK {
			t.Fatalf("Signal() = %d, %v, %d, want %d", woken, is, e, id)
		}
	}
}

// signals signals, which wakes nobody.
func signals(t *testing.T, s *sema.Sema, want api.Errno) {
	t.Helper()
	if woken, is, e := s.Signal(); woken != 0 || is || e != want {
		t.Fatalf("Signal() = %d, %v, %d, want %d", woken, is, e, want)
	}
}

// holds tells whether a semaphore has this count, and these ids wait.
func holds(t *testing.T, s *sema.Sema, count int, want ...int) {
	t.Helper()
	if got := s.Count(); got != count {
		t.Errorf("Count() = %d, want %d", got, count)
	}
	if got := s.Waiting(); !slices.Equal(got, want) {
		t.Errorf("Waiting() = %v, want %v", got, want)
	}
}

// both calls f for each kind of order.
func both(f func(byPriority bool)) {
	f(false)
	f(true)
}
