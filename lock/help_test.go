package lock_test

import (
	"fmt"
	"math"
	"slices"
	"testing"

	"monocoque/api"
	"monocoque/lock"
)

// farIds are ids at the far ends of those that may be.
var farIds = []int{0, 1, 64, 1 << 32, math.MaxInt}

// wrongLocks are no locks of at most 16.
var wrongLocks = []int{math.MinInt, -16, -1, 16, 17, 64, 1 << 32, math.MaxInt}

// wrongPriorities are none, of ids as of locks.
var wrongPriorities = []int{math.MinInt, -63, -1, 0, 64, 65, 127, 1<<32 + 1, math.MaxInt}

// of returns locks with these ceilings, which may be.
func of(t *testing.T, ceilings ...int) *lock.Locks {
	t.Helper()
	l, e := lock.New(ceilings)
	if e != api.OK || l == nil {
		t.Fatalf("New(%v) = %v, %d", ceilings, l, e)
	}
	return l
}

// takes asks for a lock, which the id gets.
func takes(t *testing.T, l *lock.Locks, id, base, n int) {
	t.Helper()
	if got, e := l.Take(id, base, n); !got || e != api.OK {
		t.Fatalf("Take(%d, %d, %d) = %v, %d, want true", id, base, n, got, e)
	}
}

// waits asks for a lock, for which the id has to wait.
func waits(t *testing.T, l *lock.Locks, id, base, n int) {
	t.Helper()
	if got, e := l.Take(id, base, n); got || e != api.OK {
		t.Fatalf("Take(%d, %d, %d) = %v, %d, want false", id, base, n, got, e)
	}
}

// refuses asks for a lock, which is an error that changes nothing.
func refuses(t *testing.T, l *lock.Locks, id, base, n int, want api.Errno) {
	t.Helper()
	before := l.Clone()
	if got, e := l.Take(id, base, n); got || e != want || !l.Same(before) {
		t.Errorf("Take(%d, %d, %d) = %v, %d, want %d", id, base, n, got, e, want)
	}
}

// gives gives a lock back, which belongs to next afterwards.
func gives(t *testing.T, l *lock.Locks, id, n int, next ...int) {
	t.Helper()
	if got, e := l.Give(id, n); e != api.OK || !slices.Equal(got, next) {
		t.Fatalf("Give(%d, %d) = %v, %d, want %v", id, n, got, e, next)
	}
}

// keeps gives a lock back, which is an error that changes nothing.
func keeps(t *testing.T, l *lock.Locks, id, n int, want api.Errno) {
	t.Helper()
	before := l.Clone()
	if got, e := l.Give(id, n); got != nil || e != want || !l.Same(before) {
		t.Errorf("Give(%d, %d) = %v, %d, want %d", id, n, got, e, want)
	}
}

// owned tells whether a lock belongs to an id.
func owned(t *testing.T, l *lock.Locks, n, id int) {
	t.Helper()
	if got, ok := l.Owner(n); got != id || !ok {
		t.Errorf("Owner(%d) = %d, %v, want %d", n, got, ok, id)
	}
	if !slices.Contains(l.Held(id), n) {
		t.Errorf("Held(%d) = %v, want %d among them", id, l.Held(id), n)
	}
}

// free tells whether a lock belongs to nobody, and nobody waits for it; so it is with one that does not exist.
func free(t *testing.T, l *lock.Locks, locks ...int) {
	t.Helper()
	for _, n := range locks {
		if id, ok := l.Owner(n); ok || id != 0 {
			t.Errorf("Owner(%d) = %d, %v", n, id, ok)
		}
		line(t, l, n)
	}
}

// line tells whether these ids wait for a lock.
func line(t *testing.T, l *lock.Locks, n int, want ...int) {
	t.Helper()
	if got := l.Waiting(n); !slices.Equal(got, want) {
		t.Errorf("Waiting(%d) = %v, want %v", n, got, want)
	}
}

// raised tells whether these locks belong to an id, the greatest ceiling of which is top.
func raised(t *testing.T, l *lock.Locks, id, top int, held ...int) {
	t.Helper()
	if got, ok := l.Raised(id); got != top || ok != (top > 0) {
		t.Errorf("Raised(%d) = %d, %v, want %d", id, got, ok, top)
	}
	if got := l.Held(id); !slices.Equal(got, held) {
		t.Errorf("Held(%d) = %v, want %v", id, got, held)
	}
}

// seen is all that can be seen of locks, but for what Same tells.
func seen(l *lock.Locks) string {
	s := ""
	for n := -1; n <= 16; n++ {
		id, ok := l.Owner(n)
		s += fmt.Sprint(id, ok, l.Waiting(n), "; ")
	}
	for id := -1; id <= 20; id++ {
		top, ok := l.Raised(id)
		s += fmt.Sprint(l.Held(id), top, ok, "; ")
	}
	return s
}

// spoil overwrites a list with all memory that belongs to it.
func spoil(l []int) {
	l = l[:cap(l)]
	for i := range l {
		l[i] = 77
	}
}
