package life_test

import (
	"math"
	"testing"

	"monocoque/api"
	"monocoque/life"
)

const (
	warmStart = 4
	coldStart = 5
	halt      = 6
)

// noActions are numbers that are no action of a partition, whatever one cuts off.
var noActions = []int{math.MinInt, -1 << 32, -256, -4, -1, 0, 1, 2, 3, 7, 8, 12, 13, 14, 36, 68, 260, 261, 262, 1<<16 + 5, 1<<32 + 4, 1<<32 + 6, math.MaxInt}

// of returns a Life of so many restarts, which may be.
func of(t *testing.T, restarts int) *life.Life {
	t.Helper()
	l, e := life.New(restarts)
	if e != api.OK || l == nil {
		t.Fatalf("New(%d) = %v, %d", restarts, l, e)
	}
	return l
}

// after returns a Life that was made to do these actions, and to run for a 0.
func after(t *testing.T, restarts int, actions ...int) *life.Life {
	t.Helper()
	l := of(t, restarts)
	for _, a := range actions {
		if a == 0 {
			l.Run()
		} else {
			l.Do(a)
		}
	}
	return l
}

// is tells what a Life is.
func is(t *testing.T, l *life.Life, mode, starts, left int) {
	t.Helper()
	if l.Mode() != mode || l.Starts() != starts || l.Left() != left {
		t.Errorf("Mode, Starts and Left are %d, %d, %d, want %d, %d, %d", l.Mode(), l.Starts(), l.Left(), mode, starts, left)
	}
}

// restarts does what lets the partition restart.
func restarts(t *testing.T, l *life.Life, action, mode int) {
	t.Helper()
	starts, left := l.Starts(), l.Left()
	if m, yes, e := l.Do(action); m != mode || !yes || e != api.OK {
		t.Errorf("Do(%d) = %d, %v, %d, want %d, true", action, m, yes, e, mode)
	}
	is(t, l, mode, starts+1, left-1)
}

// ends does what makes the mode Idle.
func ends(t *testing.T, l *life.Life, want api.Errno, action int) {
	t.Helper()
	starts, left := l.Starts(), l.Left()
	if m, yes, e := l.Do(action); m != life.Idle || yes || e != want {
		t.Errorf("Do(%d) = %d, %v, %d, want 0, false, %d", action, m, yes, e, want)
	}
	is(t, l, life.Idle, starts, left)
}

// refuses does what is an error that changes nothing.
func refuses(t *testing.T, l *life.Life, want api.Errno, action int) {
	t.Helper()
	before := l.Clone()
	if m, yes, e := l.Do(action); m != before.Mode() || yes || e != want {
		t.Errorf("Do(%d) = %d, %v, %d, want %d, false, %d", action, m, yes, e, before.Mode(), want)
	}
	if !l.Same(before) {
		t.Errorf("Do(%d), an error, changes something", action)
	}
}

// runs lets the processes run.
func runs(t *testing.T, l *life.Life) {
	t.Helper()
	starts, left := l.Starts(), l.Left()
	if e := l.Run(); e != api.OK {
		t.Errorf("Run() = %d", e)
	}
	is(t, l, life.Normal, starts, left)
}

// runsNot tells whether Run is an error that changes nothing.
func runsNot(t *testing.T, l *life.Life) {
	t.Helper()
	before := l.Clone()
	if e := l.Run(); e != api.ErrMode || !l.Same(before) {
		t.Errorf("Run() = %d, want ErrMode", e)
	}
}
