package budget_test

import (
	"math"
	"testing"

	"monocoque/api"
	"monocoque/budget"
)

const (
	last = 1 << 40 // the last tick
	most = 1 << 20 // the longest period
)

// noTicks are numbers that are no ticks.
var noTicks = []int{math.MinInt, math.MinInt + 1, -1 << 40, -1 << 20, -10, -1, last + 1, last + 10, last + 1<<20, 1 << 41, math.MaxInt - 1, math.MaxInt}

// amounts are numbers of ticks that one may ask for.
var amounts = []int{math.MinInt, math.MinInt + 1, -1 << 32, -1, 0, 1, 2, 5, 1 << 20, 1 << 32, 1 << 40, math.MaxInt - 1, math.MaxInt}

// of returns a server, whose numbers may be.
func of(t *testing.T, size, period int) *budget.Server {
	t.Helper()
	s, e := budget.New(size, period)
	if e != api.OK || s == nil {
		t.Fatalf("New(%d, %d) = %v, %d", size, period, s, e)
	}
	return s
}

// from returns a server whose periods begin at a tick.
func from(t *testing.T, size, period, begin int) *budget.Server {
	t.Helper()
	s := of(t, size, period)
	s.Reset(begin)
	return s
}

// used returns a server of which something was charged from a tick on.
func used(t *testing.T, s *budget.Server, now, n int) *budget.Server {
	t.Helper()
	charges(t, s, now, n, n)
	return s
}

// charges asks for ticks and tells whether that many are charged.
func charges(t *testing.T, s *budget.Server, now, n, want int) {
	t.Helper()
	left := s.Left(now)
	if got, less := s.Charge(now, n); got != want || less != (want < n && n > 0) {
		t.Errorf("Charge(%d, %d) = %d, %v, want %d", now, n, got, less, want)
	}
	if got := s.Left(now); got > left || got < left-want {
		t.Errorf("Left(%d) = %d after %d of %d are charged", now, got, want, left)
	}
}

// leaves tells whether so many ticks are left.
func leaves(t *testing.T, s *budget.Server, now, want int) {
	t.Helper()
	if got := s.Left(now); got != want {
		t.Errorf("Left(%d) = %d, want %d", now, got, want)
	}
}

// follows tells when the next period begins.
func follows(t *testing.T, s *budget.Server, now, want int) {
	t.Helper()
	if got := s.Next(now); got != want {
		t.Errorf("Next(%d) = %d, want %d", now, got, want)
	}
}

// givesNothing tells whether nothing can be charged at a tick, whatever one asks for, and that this changes nothing.
func givesNothing(t *testing.T, s *budget.Server, now int) {
	t.Helper()
	before := s.Clone()
	leaves(t, s, now, 0)
	for _, n := range amounts {
		if got, less := s.Charge(now, n); got != 0 || less != (n > 0) {
			t.Errorf("Charge(%d, %d) = %d, %v, want 0", now, n, got, less)
		}
	}
	if !s.Same(before) {
		t.Errorf("Charge at %d changes something", now)
	}
}
