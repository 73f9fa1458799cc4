package proc_test

import (
	"fmt"
	"math"
	"testing"

	"monocoque/api"
	"monocoque/proc"
)

const (
	mostProcesses = 16
	longest       = 1 << 20
	last          = 1 << 40
)

// wrongTicks are no ticks that may be passed.
var wrongTicks = []int{math.MinInt, -last, -2, -1, last + 1, last + longest, math.MaxInt}

// wrongIds are the numbers of no process of a table that has n of them.
func wrongIds(n int) []int {
	return []int{math.MinInt, -64, -2, -1, n, n + 1, n + 64, 1 << 32, math.MaxInt}
}

// table returns a table of these processes.
func table(t *testing.T, l ...proc.Attr) *proc.Table {
	t.Helper()
	x, e := proc.New(l)
	if e != api.OK || x == nil {
		t.Fatalf("New(%v) = %v, %d", l, x, e)
	}
	return x
}

// ok fails if there is an error where there must be none.
func ok(t *testing.T, l ...api.Errno) {
	t.Helper()
	for i, e := range l {
		if e != api.OK {
			t.Fatalf("call %d of these: %d", i, e)
		}
	}
}

// seen is all that the methods tell of a table, whatever Same says: of each process, and what becomes visible of it
// once it is resumed, and from which tick on its deadline is missed.
func seen(x *proc.Table) string {
	s := fmt.Sprint(x.Len())
	for i := range x.Len() {
		at, timed := x.Until(i)
		s += fmt.Sprint("; ", x.Attr(i), x.State(i), x.Base(i), x.Current(i), at, timed, x.Left(i), released(x, i), late(x, i))
		c := x.Clone()
		if c.Resume(i) == api.OK {
			s += fmt.Sprint(" held ", c.State(i))
		}
		c.SetPriority(i, 1)
		s += fmt.Sprint(" raised ", c.Current(i))
	}
	return s
}

// released returns the tick at which a release with a period began, which Done tells.
func released(x *proc.Table, i int) int {
	c := x.Clone()
	c.Resume(i)
	c.Wake(i)
	next, e := c.Done(i, 0)
	if e != api.OK || next < 0 {
		return -1
	}
	return next - x.Attr(i).Period
}

// late returns the first tick of some at which Missed tells of a process, or -1.
func late(x *proc.Table, i int) int {
	for now := range 80 {
		for _, id := range x.Clone().Missed(now) {
			if id == i {
				return now
			}
		}
	}
	return -1
}

// stage is a way that brings a dormant process into a state; its release, if it has one, begins at 10.
type stage struct {
	name string
	way  func(x *proc.Table, i int) []api.Errno
}

// stages are all the states of a process with a period, an offset of 0 and a deadline.
func stages() []stage {
	free := []stage{
		{"ready", func(x *proc.Table, i int) []api.Errno { return []api.Errno{x.Start(i, 10)} }},
		{"waiting", func(x *proc.Table, i int) []api.Errno { return []api.Errno{x.Start(i, 10), x.Wait(i, 30)} }},
		{"waiting indefinitely", func(x *proc.Table, i int) []api.Errno { return []api.Errno{x.Start(i, 10), x.Wait(i, -1)} }},
		{"resting", func(x *proc.Table, i int) []api.Errno {
			e := x.Start(i, 10)
			_, f := x.Done(i, 12)
			return []api.Errno{e, f}
		}},
	}
	all := []stage{{"dormant", func(x *proc.Table, i int) []api.Errno { return nil }}}
	for _, s := range free {
		all = append(all, s, stage{"held, " + s.name, func(x *proc.Table, i int) []api.Errno {
			return append(s.way(x, i), x.Suspend(i))
		}})
	}
	return all
}

// staged returns a table of three such processes, of which the second one was brought into a state.
func staged(t *testing.T, s stage) *proc.Table {
	t.Helper()
	a := proc.Attr{Priority: 7, Period: 20, Capacity: 9, Deadline: 15}
	x := table(t, proc.Attr{Priority: 3}, a, a)
	ok(t, s.way(x, 1)...)
	return x
}
