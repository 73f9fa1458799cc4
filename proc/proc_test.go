package proc_test

import (
	"math"
	"slices"
	"strings"
	"testing"

	"monocoque/api"
	"monocoque/proc"
)

// The chapter's example.
func TestExample(t *testing.T) {
	x := table(t, proc.Attr{Priority: 1, Period: 10})
	ok(t, x.Start(0, 3))
	if next, e := x.Done(0, 5); next != 13 || e != api.OK || x.State(0) != proc.Resting {
		t.Error(next, e, x.State(0))
	}
	if at, timed := x.Until(0); at != 13 || !timed {
		t.Error(at, timed)
	}
	ok(t, x.Release(0, 13))
	if next, e := x.Done(0, 25); next != 23 || e != api.OK || x.State(0) != proc.Ready || released(x, 0) != 23 {
		t.Error(next, e, x.State(0), released(x, 0))
	}
}

// P19.1: how many processes there may be; all of them are dormant.
func TestNew(t *testing.T) {
	for n := range 40 {
		var l []proc.Attr
		for i := range n {
			l = append(l, proc.Attr{Priority: 1 + i, Period: i, Capacity: 2 * i, Deadline: 3 * i, Offset: 4 * i})
		}
		x, e := proc.New(l)
		if n > mostProcesses {
			if x != nil || e != api.ErrFull {
				t.Errorf("New of %d = %v, %d", n, x, e)
			}
			continue
		}
		if e != api.OK || x.Len() != n {
			t.Fatalf("New of %d = %v, %d", n, x, e)
		}
		for i, a := range l {
			if x.Attr(i) != a || x.State(i) != proc.Dormant || x.Base(i) != 1+i || x.Current(i) != 1+i {
				t.Error(i, x.Attr(i), x.State(i), x.Base(i), x.Current(i))
			}
			if at, timed := x.Until(i); at != 0 || timed {
				t.Error("a dormant process waits until", at)
			}
		}
	}
	if x, e := proc.New(nil); e != api.OK || x.Len() != 0 || len(x.Missed(9)) != 0 {
		t.Error("no processes:", x, e)
	}
}

// attrs returns an Attr with one attribute changed.
func attrs(which, n int) proc.Attr {
	a := proc.Attr{Priority: 5, Period: 1, Capacity: 2, Deadline: 3, Offset: 4}
	*[]*int{&a.Priority, &a.Period, &a.Capacity, &a.Deadline, &a.Offset}[which] = n
	return a
}

// P19.1: each attribute at and beyond its ends, at each place of the list.
func TestNewRanges(t *testing.T) {
	numbers := []int{math.MinInt, -longest, -1, 0, 1, 62, 63, 64, 1000, longest - 1, longest, longest + 1, 1 << 32, math.MaxInt}
	for which := range 5 {
		for _, n := range numbers {
			fits := n >= 0 && n <= longest
			if which == 0 {
				fits = n >= 1 && n <= 63
			}
			for at := range mostProcesses {
				l := make([]proc.Attr, mostProcesses)
				for i := range l {
					l[i] = proc.Attr{Priority: 1}
				}
				l[at] = attrs(which, n)
				x, e := proc.New(l)
				switch {
				case fits && (e != api.OK || x == nil || x.Attr(at) != l[at]):
					t.Errorf("New with %v = %v, %d", l[at], x, e)
				case !fits && (e != api.ErrRange || x != nil):
					t.Errorf("New with %v = %v, %d", l[at], x, e)
				}
			}
			if x, e := proc.New(slices.Repeat([]proc.Attr{attrs(which, n)}, mostProcesses+1)); x != nil || e != api.ErrFull {
				t.Errorf("too many of %d: %v, %d", n, x, e)
			}
		}
	}
}

// P19.1 and P19.7: what is told of a process that there is not.
func TestNoSuchProcess(t *testing.T) {
	for n := range 4 {
		x := table(t, slices.Repeat([]proc.Attr{{Priority: 9, Capacity: 5, Period: 5}}, n)...)
		for i := range n {
			ok(t, x.Start(i, 0))
		}
		for _, i := range wrongIds(n) {
			at, timed := x.Until(i)
			if x.Attr(i) != (proc.Attr{}) || x.State(i) != 0 || x.Base(i) != 0 || x.Current(i) != 0 || x.Left(i) != 0 || at != 0 || timed {
				t.Errorf("of %d processes, the process %d: %v %d %d %d %d %d", n, i, x.Attr(i), x.State(i), x.Base(i), x.Current(i), x.Left(i), at)
			}
		}
	}
}

// method is a call that returns an error, and the states in which it returns none.
type method struct {
	name   string
	call   func(x *proc.Table, i, n int) api.Errno
	number bool // whether it is given n
	in     string
}

// methods are all of them.
func methods() []method {
	alone := func(f func(*proc.Table, int) api.Errno) func(*proc.Table, int, int) api.Errno {
		return func(x *proc.Table, i, _ int) api.Errno { return f(x, i) }
	}
	done := func(x *proc.Table, i, n int) api.Errno { _, e := x.Done(i, n); return e }
	started := "ready/waiting/waiting indefinitely/resting/held, ready/held, waiting/held, waiting indefinitely/held, resting"
	released := "ready/waiting/waiting indefinitely/held, ready/held, waiting/held, waiting indefinitely"
	return []method{
		{"Start", (*proc.Table).Start, true, "dormant"},
		{"Stop", alone((*proc.Table).Stop), false, started},
		{"Suspend", alone((*proc.Table).Suspend), false, "ready/waiting/waiting indefinitely/resting"},
		{"Resume", alone((*proc.Table).Resume), false, "held, ready/held, waiting/held, waiting indefinitely/held, resting"},
		{"Wait", (*proc.Table).Wait, true, "ready"},
		{"Wake", alone((*proc.Table).Wake), false, "waiting/waiting indefinitely/held, waiting/held, waiting indefinitely"},
		{"Done", done, true, "ready"},
		{"Release", (*proc.Table).Release, true, "resting/held, resting"},
		{"Charge", (*proc.Table).Charge, true, released},
		{"SetPriority", (*proc.Table).SetPriority, true, started},
		{"Raise", (*proc.Table).Raise, true, started},
	}
}

// wrongNumbers are those which a method refuses, and rightNumbers some which it does not.
func wrongNumbers(name string) []int {
	switch name {
	case "SetPriority":
		return []int{math.MinInt, -63, -1, 0, 64, 65, 1 << 32, math.MaxInt}
	case "Raise":
		return []int{math.MinInt, -63, -1, 64, 65, 1 << 32, math.MaxInt}
	case "Wait":
		return []int{last + 1, last + longest, math.MaxInt}
	}
	return wrongTicks
}

func rightNumbers(name string) []int {
	switch name {
	case "SetPriority":
		return []int{1, 7, 62, 63}
	case "Raise":
		return []int{0, 1, 7, 62, 63}
	case "Release":
		return []int{30, 31, last - 1, last}
	case "Charge":
		return []int{0, 1, 8, 9}
	case "Wait":
		return []int{math.MinInt, -2, -1, 0, 1, 10, last - 1, last}
	}
	return []int{0, 1, 10, 40, last - 1, last}
}

// P19.1 to P19.5, P19.7: each method in each state, with right and wrong numbers: which error comes first, that nothing
// changes together with one, and that no other process changes at all.
func TestErrors(t *testing.T) {
	for _, m := range methods() {
		wrong := wrongNumbers(m.name)
		if !m.number {
			wrong = nil
		}
		for _, s := range stages() {
			x := staged(t, s)
			before, looks := x.Clone(), seen(x)
			refuse := func(i, n int, want api.Errno) {
				t.Helper()
				if e := m.call(x, i, n); e != want || !x.Same(before) || seen(x) != looks {
					t.Errorf("%s: %s(%d, %d) = %d, want %d; %s, before %s", s.name, m.name, i, n, e, want, seen(x), looks)
				}
			}
			for _, i := range wrongIds(3) {
				for _, n := range append(rightNumbers(m.name), wrong...) {
					refuse(i, n, api.ErrNone)
				}
			}
			for _, n := range wrong {
				refuse(1, n, api.ErrRange)
			}
			allowed := slices.Contains(strings.Split(m.in, "/"), s.name)
			for _, n := range rightNumbers(m.name) {
				if !allowed {
					refuse(1, n, api.ErrState)
					continue
				}
				c := x.Clone()
				if e := m.call(c, 1, n); e != api.OK {
					t.Errorf("%s: %s(1, %d) = %d", s.name, m.name, n, e)
				}
				for _, i := range []int{0, 2} {
					if c.State(i) != proc.Dormant || c.Base(i) != c.Attr(i).Priority || c.Left(i) != x.Left(i) {
						t.Errorf("%s: %s(1, %d) changes %d", s.name, m.name, n, i)
					}
				}
			}
			if seen(x) != looks {
				t.Errorf("%s: a clone's %s is seen", s.name, m.name)
			}
		}
	}
}

// P19.1: together with an error Done returns 0.
func TestDoneReturnsNothingWithAnError(t *testing.T) {
	for _, s := range stages() {
		x := staged(t, s)
		for _, i := range append(wrongIds(3), 1) {
			for _, now := range append([]int{0, 12, 40, last}, wrongTicks...) {
				if next, e := x.Clone().Done(i, now); e != api.OK && next != 0 {
					t.Errorf("%s: Done(%d, %d) = %d, %d", s.name, i, now, next, e)
				}
			}
		}
	}
}

// P19.1: what a table and its clone become is up to each of them, in each state.
func TestClone(t *testing.T) {
	for _, s := range stages() {
		for _, m := range methods() {
			for _, n := range rightNumbers(m.name) {
				x := staged(t, s)
				c := x.Clone()
				looks := seen(x)
				if c == x || !c.Same(x) || !x.Same(c) || seen(c) != looks {
					t.Fatal("a clone is not the same:", s.name)
				}
				changes := m.call(c, 1, n)
				if seen(x) != looks {
					t.Fatalf("%s: %s(1, %d) of the clone is seen", s.name, m.name, n)
				}
				if m.call(x, 1, n) != changes || !x.Same(c) || seen(x) != seen(c) {
					t.Fatalf("%s: %s(1, %d) does two things", s.name, m.name, n)
				}
			}
		}
		x := staged(t, s)
		c := x.Clone()
		if late := c.Missed(25); !slices.Equal(late, x.Clone().Missed(25)) || !slices.Equal(late, x.Missed(25)) || !x.Same(c) {
			t.Errorf("%s: Missed of the clone is seen", s.name)
		}
	}
	if x := table(t); !x.Same(x.Clone()) || x.Clone().Len() != 0 {
		t.Error("a clone of no processes")
	}
}

// P19.1: a list that is changed after New, and one that Missed returned, are the caller's.
func TestSharesNothing(t *testing.T) {
	l := []proc.Attr{{Priority: 4, Deadline: 2}, {Priority: 5, Deadline: 2}, {Priority: 6}}
	kept := slices.Clone(l)
	x := table(t, l...)
	if !slices.Equal(l, kept) {
		t.Error("New changes its argument")
	}
	clear(l)
	for i, a := range kept {
		ok(t, x.Start(i, 0))
		if x.Attr(i) != a || x.Base(i) != a.Priority {
			t.Error(i, x.Attr(i), x.Base(i))
		}
	}
	late := x.Missed(2)
	if !slices.Equal(late, []int{0, 1}) {
		t.Fatal(late)
	}
	late = late[:cap(late)]
	for i := range late {
		late[i] = 77
	}
	if more := x.Missed(5); len(more) != 0 || x.Len() != 3 {
		t.Error(more)
	}
}
