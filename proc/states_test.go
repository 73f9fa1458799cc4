package proc_test

import (
	"math"
	"slices"
	"testing"

	"monocoque/api"
	"monocoque/proc"
)

// is tells whether a process is in a state until a tick; -1 is no tick.
func is(t *testing.T, x *proc.Table, i, state, until int) {
	t.Helper()
	at, timed := x.Until(i)
	if x.State(i) != state || timed != (until >= 0) || timed && at != until || !timed && at != 0 {
		t.Errorf("State(%d) = %d, Until %d %v; want %d, %d", i, x.State(i), at, timed, state, until)
	}
}

// P19.2: the first release begins at once or after the offset, and nothing is left of what was before.
func TestStart(t *testing.T) {
	for _, offset := range []int{0, 1, 2, 1000, longest - 1, longest} {
		for _, now := range []int{0, 1, 7, longest, last - longest, last - 1, last} {
			x := table(t, proc.Attr{Priority: 5, Period: 10, Capacity: 6, Deadline: 8, Offset: offset})
			for range 2 {
				ok(t, x.Start(0, now))
				if x.Base(0) != 5 || x.Current(0) != 5 || x.Left(0) != 6 {
					t.Error(x.Base(0), x.Current(0), x.Left(0))
				}
				if offset > 0 {
					is(t, x, 0, proc.Resting, now+offset)
					if now+offset > last {
						if e := x.Release(0, last); e != api.ErrState {
							t.Errorf("Release before %d: %d", now+offset, e)
						}
						ok(t, x.Stop(0))
						continue
					}
					if e := x.Release(0, now+offset-1); e != api.ErrState {
						t.Errorf("Release one tick before %d: %d", now+offset, e)
					}
					ok(t, x.Release(0, now+offset))
				}
				is(t, x, 0, proc.Ready, -1)
				if from := released(x, 0); from != now+offset {
					t.Errorf("Start at %d with the offset %d: the release begins at %d", now, offset, from)
				}
				if now+offset+8 <= last {
					if l := x.Missed(now + offset + 7); len(l) != 0 {
						t.Error(l)
					}
					if l := x.Missed(now + offset + 8); len(l) != 1 {
						t.Error(l)
					}
				}
				// All of this is gone with Stop: the priorities, the ticks, the held flag, the missed deadline.
				ok(t, x.SetPriority(0, 60), x.Raise(0, 63), x.Charge(0, 4), x.Wait(0, 3), x.Suspend(0), x.Stop(0))
				is(t, x, 0, proc.Dormant, -1)
				if x.Base(0) != 5 || x.Current(0) != 5 || x.Left(0) != 6 {
					t.Error("dormant:", x.Base(0), x.Current(0), x.Left(0))
				}
			}
		}
	}
}

// P19.2: being held hides the state, and does not change it.
func TestHeld(t *testing.T) {
	for _, s := range stages()[1:] {
		x := staged(t, s)
		if x.State(1) == proc.Stopped {
			continue
		}
		before := x.Clone()
		at, timed := x.Until(1)
		ok(t, x.Suspend(1))
		until := -1
		if timed {
			until = at
		}
		is(t, x, 1, proc.Stopped, until)
		if x.Same(before) || before.Same(x) {
			t.Error(s.name, "held and not held are the same")
		}
		if e := x.Suspend(1); e != api.ErrState {
			t.Error(s.name, "held twice:", e)
		}
		ok(t, x.Resume(1))
		if !x.Same(before) || seen(x) != seen(before) {
			t.Error(s.name, "is another one after it was held")
		}
		if e := x.Resume(1); e != api.ErrState {
			t.Error(s.name, "resumed twice:", e)
		}
	}
}

// P19.3: until which tick a process waits, and that its release goes on.
func TestWait(t *testing.T) {
	for _, until := range []int{0, 1, 5, 1000, last - 1, last, -1, -2, math.MinInt} {
		for _, held := range []bool{false, true} {
			x := table(t, proc.Attr{Priority: 5, Period: 10, Capacity: 6, Deadline: 9})
			ok(t, x.Start(0, 4), x.Charge(0, 2), x.Wait(0, until))
			is(t, x, 0, proc.Waiting, max(until, -1))
			state := proc.Ready
			if held {
				ok(t, x.Suspend(0))
				is(t, x, 0, proc.Stopped, max(until, -1))
				state = proc.Stopped
			}
			ok(t, x.Wake(0))
			is(t, x, 0, state, -1)
			if e := x.Wake(0); e != api.ErrState {
				t.Error("woken twice:", e)
			}
			if held {
				ok(t, x.Resume(0))
				is(t, x, 0, proc.Ready, -1)
			}
			if x.Left(0) != 4 || released(x, 0) != 4 || late(x, 0) != 13 {
				t.Error("another release:", x.Left(0), released(x, 0), late(x, 0))
			}
		}
	}
}

// P19.3: all negative ticks are the same.
func TestWaitIndefinitely(t *testing.T) {
	x := staged(t, stages()[1])
	y := x.Clone()
	ok(t, x.Wait(1, -1), y.Wait(1, math.MinInt))
	if !x.Same(y) || !y.Same(x) {
		t.Error("indefinitely and indefinitely")
	}
}

// P19.4: a process without a period is dormant afterwards, whatever it had.
func TestDoneWithoutPeriod(t *testing.T) {
	for _, now := range []int{0, 3, 4, 5, 1000, last} {
		x := table(t, proc.Attr{Priority: 5, Capacity: 6, Deadline: 9})
		y := x.Clone()
		ok(t, x.Start(0, 4), x.SetPriority(0, 9), x.Raise(0, 11), x.Charge(0, 3))
		if next, e := x.Done(0, now); next != -1 || e != api.OK {
			t.Errorf("Done(0, %d) = %d, %d", now, next, e)
		}
		is(t, x, 0, proc.Dormant, -1)
		if !x.Same(y) || seen(x) != seen(y) {
			t.Error("not as it was:", seen(x), seen(y))
		}
	}
}

// P19.4: one period after the beginning: at once or later; the priorities stay, the release is another one.
func TestDoneWithPeriod(t *testing.T) {
	for _, period := range []int{1, 2, 10, longest} {
		for _, from := range []int{0, 5, last - longest} {
			for _, now := range []int{0, from, from + period - 1, from + period, min(from+period+1, last), last} {
				x := table(t, proc.Attr{Priority: 5, Period: period, Capacity: 6, Deadline: 1})
				ok(t, x.Start(0, from), x.SetPriority(0, 9), x.Raise(0, 11), x.Charge(0, 3))
				missed := x.Missed(from + 1)
				next, e := x.Done(0, now)
				if next != from+period || e != api.OK || len(missed) != 1 {
					t.Fatalf("a release from %d with the period %d, Done(%d) = %d, %d", from, period, now, next, e)
				}
				if x.Base(0) != 9 || x.Current(0) != 11 || x.Left(0) != 6 {
					t.Error(x.Base(0), x.Current(0), x.Left(0))
				}
				if next > now {
					is(t, x, 0, proc.Resting, next)
					if l := x.Missed(last); len(l) != 0 {
						t.Error("a resting process misses its deadline")
					}
					if e := x.Release(0, next-1); e != api.ErrState {
						t.Error("released too early:", e)
					}
					ok(t, x.Release(0, min(next+period/2, last)))
				}
				is(t, x, 0, proc.Ready, -1)
				if x.Left(0) != 6 || released(x, 0) != next || x.Base(0) != 9 || x.Current(0) != 11 {
					t.Error(x.Left(0), released(x, 0), x.Base(0), x.Current(0))
				}
				if l := x.Missed(next); len(l) != 0 {
					t.Error("missed at once")
				}
				if l := x.Missed(next + 1); next+1 <= last && len(l) != 1 {
					t.Error("not missed")
				}
			}
		}
	}
}

// P19.4: the release of a held process begins too, and it stays held.
func TestReleaseOfHeld(t *testing.T) {
	x := table(t, proc.Attr{Priority: 5, Period: 10, Deadline: 3})
	ok(t, x.Start(0, 4))
	x.Done(0, 5)
	ok(t, x.Suspend(0), x.Release(0, 16))
	is(t, x, 0, proc.Stopped, -1)
	if l := x.Missed(17); !slices.Equal(l, []int{0}) {
		t.Error(l)
	}
	ok(t, x.Resume(0))
	is(t, x, 0, proc.Ready, -1)
	if released(x, 0) != 14 {
		t.Error(released(x, 0))
	}
}

// P19.5: what was used, and what is left, with a capacity and without one, at its edges and beyond.
func TestCharge(t *testing.T) {
	for _, capacity := range []int{0, 1, 5, longest} {
		for _, l := range [][]int{{0}, {1}, {capacity}, {capacity + 1}, {2, 2, 1, 1}, {capacity, 0, 1, 0}, {last}, {last, last, 1, 0}} {
			for _, held := range []bool{false, true} {
				x := table(t, proc.Attr{Priority: 5, Period: 9, Capacity: capacity}, proc.Attr{Priority: 5, Capacity: capacity})
				ok(t, x.Start(0, 0), x.Start(1, 0))
				if held {
					ok(t, x.Wait(0, 3), x.Suspend(0))
				}
				used := 0
				for _, n := range l {
					used = min(used+n, last)
					want, left := api.OK, -1
					if capacity > 0 {
						left = max(capacity-used, 0)
						if used > capacity {
							want = api.ErrTime
						}
					}
					if e := x.Charge(0, n); e != want || x.Left(0) != left {
						t.Errorf("the capacity %d, used %d: %d, %d left; want %d, %d", capacity, used, e, x.Left(0), want, left)
					}
				}
				if capacity > 0 && x.Left(1) != capacity {
					t.Error("another process was charged:", x.Left(1))
				}
			}
		}
	}
}

// P19.5: no more than 2^40 are counted, so tables are the same from there on.
func TestChargeHasAnEnd(t *testing.T) {
	x := table(t, proc.Attr{Priority: 5, Period: 9})
	ok(t, x.Start(0, 0), x.Charge(0, last-1))
	y := x.Clone()
	ok(t, x.Charge(0, 1))
	if x.Same(y) {
		t.Error("one tick more makes no difference")
	}
	ok(t, y.Charge(0, 5), y.Charge(0, last))
	if !x.Same(y) {
		t.Error("more than 2^40 ticks make a difference")
	}
}

// P19.5: what is left of a release, and of none.
func TestLeft(t *testing.T) {
	for _, capacity := range []int{0, 6} {
		whole := capacity
		if capacity == 0 {
			whole = -1
		}
		x := table(t, proc.Attr{Priority: 5, Period: 10, Capacity: capacity})
		left := func(n int) {
			t.Helper()
			if capacity == 0 {
				n = whole
			}
			if x.Left(0) != n {
				t.Errorf("%d left, want %d", x.Left(0), n)
			}
		}
		left(whole)
		ok(t, x.Start(0, 0), x.Charge(0, 4))
		left(2)
		ok(t, x.Wait(0, 5), x.Suspend(0))
		left(2)
		x.Charge(0, 5)
		left(0)
		ok(t, x.Wake(0), x.Resume(0))
		left(0)
		x.Done(0, 9)
		left(whole)
		ok(t, x.Release(0, 10), x.Charge(0, 6))
		left(0)
		x.Done(0, 20)
		left(whole)
		ok(t, x.Charge(0, 1), x.Stop(0))
		left(whole)
	}
}

// P19.6: each state, around the tick of the deadline, and once for each release.
func TestMissed(t *testing.T) {
	for _, s := range stages() {
		for now := range 60 {
			x := staged(t, s)
			before := x.Clone()
			var want []int
			if s.name != "dormant" && s.name != "resting" && s.name != "held, resting" && now >= 25 {
				want = []int{1}
			}
			if l := x.Missed(now); !slices.Equal(l, want) {
				t.Errorf("%s: Missed(%d) = %v", s.name, now, l)
			}
			if x.Same(before) != (want == nil) || seen(x) == seen(before) != (want == nil) {
				t.Errorf("%s: Missed(%d) is not kept", s.name, now)
			}
			if want == nil {
				continue
			}
			for _, then := range []int{0, now, now + 1, last} {
				if l := x.Missed(then); len(l) != 0 {
					t.Errorf("%s: missed again: %v", s.name, l)
				}
			}
			x.Resume(1)
			x.Wake(1)
			if _, e := x.Done(1, 40); e != api.OK {
				t.Fatal(e)
			}
			if l := x.Missed(44); len(l) != 0 {
				t.Error("the next release is late too early:", l)
			}
			if l := x.Missed(45); !slices.Equal(l, []int{1}) {
				t.Error("the next release is not late:", l)
			}
		}
	}
}

// P19.6: all that are late, in increasing order, and those only that have a deadline.
func TestMissedOrder(t *testing.T) {
	var l []proc.Attr
	for i := range mostProcesses {
		l = append(l, proc.Attr{Priority: 1 + i, Deadline: i * 7 % 16})
	}
	for now := range 40 {
		x := table(t, l...)
		var want []int
		for i := mostProcesses - 1; i >= 0; i-- {
			ok(t, x.Start(i, 10+i%3))
		}
		for i, a := range l {
			if a.Deadline > 0 && 10+i%3+a.Deadline <= now {
				want = append(want, i)
			}
		}
		if got := x.Missed(now); !slices.Equal(got, want) {
			t.Errorf("Missed(%d) = %v, want %v", now, got, want)
		}
	}
	x := table(t, proc.Attr{Priority: 1, Deadline: longest})
	ok(t, x.Start(0, 5))
	if l := x.Missed(longest + 4); len(l) != 0 {
		t.Error(l)
	}
	if l := x.Missed(longest + 5); len(l) != 1 {
		t.Error(l)
	}
}

// P19.7: the greater one of both priorities counts; each is set apart from the other one.
func TestPriorities(t *testing.T) {
	for _, s := range stages()[1:] {
		for _, base := range []int{1, 6, 7, 8, 31, 63} {
			for _, raised := range []int{0, 1, 6, 7, 8, 31, 63} {
				x := staged(t, s)
				y := x.Clone()
				tells := func(b, c int) {
					t.Helper()
					if x.Base(1) != b || x.Current(1) != c || x.Base(2) != 7 || x.Current(2) != 7 {
						t.Errorf("%s: Base %d, Current %d, want %d, %d", s.name, x.Base(1), x.Current(1), b, c)
					}
				}
				ok(t, x.Raise(1, raised))
				tells(7, max(7, raised))
				ok(t, x.SetPriority(1, base))
				tells(base, max(base, raised))
				ok(t, y.SetPriority(1, base), y.Raise(1, raised))
				if !x.Same(y) {
					t.Error("the order of both makes a difference")
				}
				ok(t, x.Raise(1, 0))
				tells(base, base)
				if x.Same(y) != (raised == 0) {
					t.Error("Same does not look at both priorities")
				}
				ok(t, x.Raise(1, 63), x.Stop(1))
				tells(7, 7)
			}
		}
	}
}
