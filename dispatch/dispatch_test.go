package dispatch_test

import (
	"math"
	"slices"
	"testing"

	"monocoque/api"
	"monocoque/dispatch"
	"monocoque/proc"
)

// The chapter's example.
func TestExample(t *testing.T) {
	d := started(t, 3, 3)
	queue(t, d, 0, 1)
	ok(t, d.Yield(0))
	queue(t, d, 1, 0)
	ok(t, d.Raise(0, 5))
	queue(t, d, 0, 1)
	ok(t, d.Raise(0, 0))
	queue(t, d, 0, 1)
}

// P20.1: the processes and the errors of layer 19.
func TestNew(t *testing.T) {
	lists := [][]proc.Attr{
		nil, {{Priority: 1}}, {{Priority: 63, Period: 5, Capacity: 4, Deadline: 3, Offset: 2}, {Priority: 2}}, {{}}, {{Priority: 64}}, {{Priority: 5}, {Priority: 5, Period: -1}},
		slices.Repeat([]proc.Attr{{Priority: 9}}, 16), slices.Repeat([]proc.Attr{{Priority: 9}}, 17), make([]proc.Attr, 17),
	}
	for _, l := range lists {
		kept := slices.Clone(l)
		x, want := proc.New(l)
		d, e := dispatch.New(l)
		if e != want || (d == nil) != (e != api.OK) || !slices.Equal(l, kept) {
			t.Errorf("New(%v) = %v, %d, want %d", l, d, e, want)
		}
		if d == nil {
			continue
		}
		clear(l)
		if !d.Table().Same(x) {
			t.Errorf("New(%v) has other processes", kept)
		}
		queue(t, d)
		advances(t, d, last, nil, nil)
	}
}

// P20.1: a Table is a clone.
func TestTable(t *testing.T) {
	d := started(t, 3, 4)
	before := d.Clone()
	x := d.Table()
	ok(t, x.Stop(0), x.Wait(1, 5))
	if !d.Same(before) || d.Table().State(0) != proc.Ready || d.Table().Same(x) {
		t.Error("a change of a Table is seen")
	}
	kept := d.Table()
	ok(t, d.Stop(0))
	if kept.State(0) != proc.Ready || d.Table().State(0) != proc.Dormant {
		t.Error(kept.State(0), d.Table().State(0))
	}
}

// ways bring process 1, whose release begins at 0 and which has a period of 20, into each state.
func ways() map[string]func(d *dispatch.Dispatch) []api.Errno {
	all := map[string]func(d *dispatch.Dispatch) []api.Errno{
		"dormant":              func(d *dispatch.Dispatch) []api.Errno { return nil },
		"ready":                func(d *dispatch.Dispatch) []api.Errno { return []api.Errno{d.Start(1, 0)} },
		"waiting":              func(d *dispatch.Dispatch) []api.Errno { return []api.Errno{d.Start(1, 0), d.Wait(1, 10)} },
		"waiting indefinitely": func(d *dispatch.Dispatch) []api.Errno { return []api.Errno{d.Start(1, 0), d.Wait(1, -1)} },
		"resting":              func(d *dispatch.Dispatch) []api.Errno { return []api.Errno{d.Start(1, 0), d.Done(1, 5)} },
	}
	for _, name := range []string{"ready", "waiting", "waiting indefinitely", "resting"} {
		all["held, "+name] = func(d *dispatch.Dispatch) []api.Errno { return append(all[name](d), d.Suspend(1)) }
	}
	return all
}

// P20.2 and P20.3: each method in each state, with all sorts of numbers, has the error that it has in layer 19; the Table
// changes as it does there; and nothing changes together with an error.
func TestMethodsAreThoseOfLayer19(t *testing.T) {
	numbers := append([]int{0, 1, 5, 6, 20, 30, 62, 63, 64, last - 1, last}, wrongTicks...)
	onTable := func(c call, x *proc.Table) api.Errno {
		return c.onModel(&model{x: x, entered: map[int]int{}, set: map[int]int{}})
	}
	for state, way := range ways() {
		for _, name := range names {
			for _, i := range []int{math.MinInt, -1, 0, 1, 2, 3, 64, 1 << 32, math.MaxInt} {
				for _, n := range numbers {
					d := with(t, proc.Attr{Priority: 5}, proc.Attr{Priority: 5, Period: 20, Capacity: 9, Deadline: 5}, proc.Attr{Priority: 5})
					ok(t, d.Start(0, 0), d.Start(2, 0))
					ok(t, way(d)...)
					before, looks, c := d.Clone(), seen(d), call{name, i, n}
					x := d.Table()
					want := onTable(c, x)
					if e := c.on(d); e != want || !d.Table().Same(x) {
						t.Fatalf("%s: %v = %d, want %d", state, c, e, want)
					}
					if want != api.OK && want != api.ErrTime && (!d.Same(before) || seen(d) != looks) {
						t.Fatalf("%s: %v changes something", state, c)
					}
					for _, j := range []int{0, 1, 2} {
						if queued := slices.Contains(d.Ready(), j); queued != (x.State(j) == proc.Ready) {
							t.Fatalf("%s: after %v %d is in the queue: %v", state, c, j, queued)
						}
					}
				}
			}
		}
	}
}

// P20.2: what Charge adds stays added together with ErrTime.
func TestCharge(t *testing.T) {
	d := with(t, proc.Attr{Priority: 5, Capacity: 4})
	ok(t, d.Start(0, 0), d.Charge(0, 3))
	if d.Table().Left(0) != 1 {
		t.Error(d.Table().Left(0))
	}
	x := d.Table()
	x.Charge(0, 2)
	if e := d.Charge(0, 2); e != api.ErrTime || !d.Table().Same(x) || d.Table().Left(0) != 0 {
		t.Error(e)
	}
	queue(t, d, 0)
	if e := d.Charge(0, -1); e != api.ErrRange || !d.Table().Same(x) {
		t.Error(e)
	}
}

// P20.2: whoever becomes ready, in whichever way, enters behind all of its priority.
func TestEntersAtTheEnd(t *testing.T) {
	for state, way := range ways() {
		var becomes []func(d *dispatch.Dispatch) api.Errno
		start := func(d *dispatch.Dispatch) api.Errno { return d.Start(1, 0) }
		wake := func(d *dispatch.Dispatch) api.Errno { return d.Wake(1) }
		resume := func(d *dispatch.Dispatch) api.Errno { return d.Resume(1) }
		advance := func(d *dispatch.Dispatch) api.Errno { d.Advance(20); return api.OK }
		done := func(d *dispatch.Dispatch) api.Errno { return d.Done(1, 20) }
		yield := func(d *dispatch.Dispatch) api.Errno { return d.Yield(1) }
		switch state {
		case "dormant":
			becomes = append(becomes, start)
		case "ready":
			becomes = append(becomes, done, yield)
		case "waiting":
			becomes = append(becomes, wake, advance)
		case "waiting indefinitely":
			becomes = append(becomes, wake)
		case "resting":
			becomes = append(becomes, advance)
		case "held, ready":
			becomes = append(becomes, resume)
		}
		for n, become := range becomes {
			d := with(t, proc.Attr{Priority: 5}, proc.Attr{Priority: 5, Period: 20}, proc.Attr{Priority: 5}, proc.Attr{Priority: 6}, proc.Attr{Priority: 4})
			ok(t, way(d)...)
			ok(t, d.Start(4, 0), d.Start(2, 0), d.Start(0, 0), d.Start(3, 0), become(d))
			queue(t, d, 3, 2, 0, 1, 4)
			if t.Failed() {
				t.Fatal(state, n)
			}
		}
	}
}

// P20.2: whoever is not ready any more leaves the queue, and enters behind the others when it comes back.
func TestLeaves(t *testing.T) {
	for name, leave := range map[string]func(d *dispatch.Dispatch) api.Errno{
		"Stop":               func(d *dispatch.Dispatch) api.Errno { return d.Stop(1) },
		"Suspend":            func(d *dispatch.Dispatch) api.Errno { return d.Suspend(1) },
		"Wait":               func(d *dispatch.Dispatch) api.Errno { return d.Wait(1, 9) },
		"Wait, indefinitely": func(d *dispatch.Dispatch) api.Errno { return d.Wait(1, -9) },
		"Done":               func(d *dispatch.Dispatch) api.Errno { return d.Done(1, 9) },
	} {
		d := started(t, 3, 3, 3)
		ok(t, leave(d))
		queue(t, d, 0, 2)
		d.Resume(1)
		d.Wake(1)
		d.Start(1, 9)
		queue(t, d, 0, 2, 1)
		if t.Failed() {
			t.Fatal(name)
		}
	}
}

// P20.2: a held process that is woken or released is not ready before it is resumed.
func TestHeldDoesNotEnter(t *testing.T) {
	d := with(t, proc.Attr{Priority: 5, Period: 10}, proc.Attr{Priority: 5, Period: 10}, proc.Attr{Priority: 5}, proc.Attr{Priority: 5})
	for i := range 4 {
		ok(t, d.Start(i, 0))
	}
	ok(t, d.Done(0, 2), d.Wait(1, 6), d.Wait(2, 50), d.Suspend(0), d.Suspend(1), d.Suspend(2))
	ok(t, d.Wake(2))
	queue(t, d, 3)
	advances(t, d, 10, []int{1, 0}, nil)
	queue(t, d, 3)
	advances(t, d, 60, nil, nil)
	ok(t, d.Resume(2), d.Resume(0))
	queue(t, d, 3, 2, 0)
	ok(t, d.Resume(1))
	queue(t, d, 3, 2, 0, 1)
}

// P20.2: a process that is resumed while it waits or rests goes on with that.
func TestResumedWhileItWaits(t *testing.T) {
	d := with(t, proc.Attr{Priority: 5, Period: 10}, proc.Attr{Priority: 5})
	ok(t, d.Start(0, 0), d.Start(1, 0), d.Done(0, 2), d.Wait(1, 6), d.Suspend(0), d.Suspend(1), d.Resume(0), d.Resume(1))
	queue(t, d)
	advances(t, d, 5, nil, nil)
	advances(t, d, 6, []int{1}, nil)
	queue(t, d, 1)
	advances(t, d, 10, []int{0}, nil)
	queue(t, d, 1, 0)
}

// P20.3: each place of a queue, and each priority: SetPriority goes behind its equals, Raise ahead of them, and who
// keeps its current priority keeps its place.
func TestPriorities(t *testing.T) {
	priorities := []int{9, 9, 5, 5, 5, 2, 2}
	for i := range priorities {
		for p := -1; p <= 64; p++ {
			for _, raise := range []bool{false, true} {
				d := started(t, priorities...)
				e, current := d.SetPriority(i, p), p
				if raise {
					d = started(t, priorities...)
					e, current = d.Raise(i, p), max(p, priorities[i])
				}
				if (e != api.OK) != (p < 1 && !(raise && p == 0) || p > 63) {
					t.Errorf("%d to %d: %d", i, p, e)
				}
				want := []int{0, 1, 2, 3, 4, 5, 6}
				if e == api.OK && current != priorities[i] {
					want = slices.Delete(want, i, i+1)
					at := 0
					for at < len(want) && (priorities[want[at]] > current || priorities[want[at]] == current && !raise) {
						at++
					}
					want = slices.Insert(want, at, i)
				}
				queue(t, d, want...)
				if t.Failed() {
					t.Fatalf("%d to %d, raise: %v", i, p, raise)
				}
			}
		}
	}
}

// P20.3: the greater one of both priorities counts; a raise that is taken back leads ahead of the equals.
func TestBothPriorities(t *testing.T) {
	d := started(t, 5, 5, 5, 7)
	ok(t, d.Raise(1, 5), d.Raise(1, 3))
	queue(t, d, 3, 0, 1, 2)
	ok(t, d.Raise(1, 7))
	queue(t, d, 1, 3, 0, 2)
	ok(t, d.SetPriority(1, 7))
	queue(t, d, 1, 3, 0, 2)
	ok(t, d.SetPriority(1, 6), d.SetPriority(1, 5))
	queue(t, d, 1, 3, 0, 2)
	ok(t, d.Raise(1, 0))
	queue(t, d, 3, 1, 0, 2)
	ok(t, d.Raise(2, 6), d.SetPriority(2, 7))
	queue(t, d, 3, 2, 1, 0)
	ok(t, d.SetPriority(2, 5))
	queue(t, d, 3, 2, 1, 0)
	ok(t, d.Raise(2, 5))
	queue(t, d, 3, 2, 1, 0)
	ok(t, d.SetPriority(0, 7))
	queue(t, d, 3, 0, 2, 1)
}

// P20.3: a process that is not ready gets its priority as well, and enters with it.
func TestPriorityOfOthers(t *testing.T) {
	for state, way := range ways() {
		for _, raise := range []bool{false, true} {
			d := with(t, proc.Attr{Priority: 5}, proc.Attr{Priority: 5, Period: 20}, proc.Attr{Priority: 8})
			ok(t, d.Start(0, 0), d.Start(2, 0))
			ok(t, way(d)...)
			f := d.SetPriority
			if raise {
				f = d.Raise
			}
			e := f(1, 8)
			if state == "dormant" {
				if e != api.ErrState {
					t.Error(e)
				}
				continue
			}
			ok(t, e)
			want := []int{2, 1, 0}
			if state == "ready" && raise {
				want = []int{1, 2, 0}
			}
			d.Resume(1)
			d.Wake(1)
			d.Advance(20)
			queue(t, d, want...)
			if t.Failed() {
				t.Fatal(state, raise)
			}
		}
	}
}

// P20.4: by ticks, and for equal ticks as they were set; up to now and no further.
func TestAdvanceOrder(t *testing.T) {
	d := started(t, 1, 2, 3, 4, 5)
	for _, w := range [][2]int{{3, 7}, {0, 5}, {4, 7}, {2, 5}, {1, 6}} {
		ok(t, d.Wait(w[0], w[1]))
	}
	for now, want := range map[int][]int{0: nil, 4: nil, 5: {0, 2}, 6: {0, 2, 1}, 7: {0, 2, 1, 3, 4}, last: {0, 2, 1, 3, 4}} {
		c := d.Clone()
		advances(t, c, now, want, nil)
		advances(t, c, now, nil, nil)
		if got := c.Ready(); len(got) != len(want) {
			t.Error(got)
		}
	}
	advances(t, d, 5, []int{0, 2}, nil)
	queue(t, d, 2, 0)
	ok(t, d.Wait(0, 7))
	advances(t, d, 7, []int{1, 3, 4, 0}, nil)
	queue(t, d, 4, 3, 2, 1, 0)
}

// P20.4: processes of one priority enter the queue as their timers were due.
func TestAdvanceEnters(t *testing.T) {
	d := started(t, 3, 3, 3, 3)
	ok(t, d.Wait(2, 9), d.Wait(0, 9), d.Wait(3, 4))
	advances(t, d, 9, []int{3, 2, 0}, nil)
	queue(t, d, 1, 3, 2, 0)
}

// P20.4: those that rest and those that wait together, with the releases as they have to be.
func TestAdvanceReleases(t *testing.T) {
	d := with(t, proc.Attr{Priority: 5, Offset: 3, Period: 10, Capacity: 7}, proc.Attr{Priority: 6, Capacity: 7}, proc.Attr{Priority: 7, Period: 4, Capacity: 7})
	for i := range 3 {
		ok(t, d.Start(i, 0))
	}
	queue(t, d, 2, 1)
	ok(t, d.Charge(1, 2), d.Wait(1, 3), d.Charge(2, 2), d.Done(2, 1))
	advances(t, d, 2, nil, nil)
	advances(t, d, 3, []int{0, 1}, nil)
	advances(t, d, 6, []int{2}, nil)
	x := d.Table()
	if x.Left(0) != 7 || x.Left(1) != 5 || x.Left(2) != 7 {
		t.Error(x.Left(0), x.Left(1), x.Left(2))
	}
	ok(t, d.Done(0, 6), d.Done(2, 6))
	x = d.Table()
	if at, _ := x.Until(0); at != 13 {
		t.Error("the release of 0 began at", at-10)
	}
	if at, _ := x.Until(2); at != 8 {
		t.Error("the release of 2 began at", at-4)
	}
}

// P20.4: late is what is missed at now, of those that were just released too, and each only once.
func TestAdvanceLate(t *testing.T) {
	d := with(t, proc.Attr{Priority: 5, Period: 10, Deadline: 5}, proc.Attr{Priority: 6, Deadline: 20}, proc.Attr{Priority: 7, Deadline: 6, Period: 8})
	for i := range 3 {
		ok(t, d.Start(i, 0))
	}
	ok(t, d.Wait(0, 30), d.Suspend(2))
	advances(t, d, 4, nil, nil)
	advances(t, d, 6, nil, []int{0, 2})
	advances(t, d, 19, nil, nil)
	ok(t, d.Resume(2), d.Done(2, 7))
	advances(t, d, 22, []int{2}, []int{1, 2})
	advances(t, d, 30, []int{0}, nil)
	ok(t, d.Done(0, 30))
	advances(t, d, 30, nil, []int{0})
}

// P20.4: a tick that may not be passed.
func TestAdvanceWrongTicks(t *testing.T) {
	d := with(t, proc.Attr{Priority: 5, Deadline: 1}, proc.Attr{Priority: 5})
	ok(t, d.Start(0, 0), d.Start(1, 0), d.Wait(1, 0))
	before := d.Clone()
	for _, now := range wrongTicks {
		advances(t, d, now, nil, nil)
		if !d.Same(before) || seen(d) != seen(before) {
			t.Errorf("Advance(%d) changes something", now)
		}
	}
	advances(t, d, last, []int{1}, []int{0})
	e := with(t, proc.Attr{Priority: 5}, proc.Attr{Priority: 5, Offset: 1})
	ok(t, e.Start(0, 0), e.Wait(0, last), e.Start(1, last))
	advances(t, e, last-1, nil, nil)
	advances(t, e, last, []int{0}, nil)
	advances(t, e, last+1, nil, nil)
}

// P20.4: a timer is gone when its process no longer waits or rests, and a held process keeps its timer in its place.
func TestTimersAreRemoved(t *testing.T) {
	for name, end := range map[string]func(d *dispatch.Dispatch) api.Errno{
		"Wake": func(d *dispatch.Dispatch) api.Errno { return d.Wake(0) },
		"Stop": func(d *dispatch.Dispatch) api.Errno { return d.Stop(0) },
	} {
		d := started(t, 3, 3)
		ok(t, d.Wait(0, 5), d.Wait(1, 5), end(d))
		advances(t, d, 9, []int{1}, nil)
		if t.Failed() {
			t.Fatal(name)
		}
	}
	d := with(t, proc.Attr{Priority: 3, Period: 5}, proc.Attr{Priority: 3})
	ok(t, d.Start(0, 0), d.Done(0, 1), d.Stop(0))
	advances(t, d, 5, nil, nil)
	ok(t, d.Start(0, 2), d.Done(0, 3), d.Start(1, 3), d.Wait(1, 7), d.Suspend(0), d.SetPriority(0, 9), d.Raise(0, 8), d.Resume(0))
	advances(t, d, 7, []int{0, 1}, nil)
	ok(t, d.Wait(1, 9), d.Wake(1), d.Wait(0, 9), d.Wait(1, 9))
	advances(t, d, 9, []int{0, 1}, nil)
}

// P20.2: Yield moves a process behind its equals, and no further.
func TestYield(t *testing.T) {
	d := started(t, 3, 5, 5, 5, 7)
	for _, x := range []struct {
		i    int
		want []int
	}{{4, []int{4, 1, 2, 3, 0}}, {0, []int{4, 1, 2, 3, 0}}, {2, []int{4, 1, 3, 2, 0}}, {1, []int{4, 3, 2, 1, 0}}, {1, []int{4, 3, 2, 1, 0}}} {
		ok(t, d.Yield(x.i))
		queue(t, d, x.want...)
	}
	ok(t, d.Raise(0, 5), d.Yield(0))
	queue(t, d, 4, 3, 2, 1, 0)
	ok(t, d.Yield(3))
	queue(t, d, 4, 2, 1, 0, 3)
}

// P20.5: what a Dispatch and its clone become is up to each of them.
func TestClone(t *testing.T) {
	d := with(t, proc.Attr{Priority: 3}, proc.Attr{Priority: 3}, proc.Attr{Priority: 3, Period: 9, Deadline: 4})
	for i := range 3 {
		ok(t, d.Start(i, 0))
	}
	ok(t, d.Wait(1, 5))
	c := d.Clone()
	if c == d || !c.Same(d) || !d.Same(c) || seen(c) != seen(d) {
		t.Fatal("a clone is not the same")
	}
	ok(t, c.Yield(0), c.Charge(2, 4), c.Wake(1))
	queue(t, d, 0, 2)
	queue(t, c, 2, 0, 1)
	if d.Same(c) || d.Table().Same(c.Table()) {
		t.Error("they are the same")
	}
	ok(t, d.Stop(2))
	queue(t, d, 0)
	queue(t, c, 2, 0, 1)
	advances(t, d, 9, []int{1}, nil)
	advances(t, c, 9, nil, []int{2})
}

// P20.5: Same looks at the Tables, the queues and the timers, each of which alone may be another one.
func TestSame(t *testing.T) {
	make3 := func() *dispatch.Dispatch { return started(t, 3, 3, 3) }
	d, x := make3(), make3()
	if !d.Same(x) || !d.Same(d) {
		t.Fatal("two that were made in one way")
	}
	ok(t, x.Yield(0))
	if d.Same(x) || x.Same(d) || !d.Table().Same(x.Table()) {
		t.Error("the queues are others")
	}
	ok(t, x.Yield(1), x.Yield(2))
	if !d.Same(x) {
		t.Error("the queues are the same again")
	}
	ok(t, d.Wait(0, 5), d.Wait(1, 5), x.Wait(1, 5), x.Wait(0, 5))
	if d.Same(x) || x.Same(d) || !d.Table().Same(x.Table()) || !slices.Equal(d.Ready(), x.Ready()) {
		t.Error("the timers are others")
	}
	ok(t, d.Wake(0), d.Wait(0, 5))
	if !d.Same(x) {
		t.Error("the timers are the same again")
	}
	ok(t, d.Charge(2, 1))
	if d.Same(x) || x.Same(d) {
		t.Error("the Tables are others")
	}
	if of(t, 3).Same(of(t, 4)) || of(t, 3).Same(of(t)) || !of(t).Same(of(t)) {
		t.Error("other processes")
	}
}

// P20.7: lists that were returned are the caller's.
func TestListsAreTheCallers(t *testing.T) {
	d := with(t, slices.Repeat([]proc.Attr{{Priority: 3, Deadline: 2}}, 4)...)
	for i := range 4 {
		ok(t, d.Start(i, 0))
	}
	ok(t, d.Wait(3, 5), d.Wait(2, 5))
	want := d.Clone()
	spoil := func(l []int) {
		l = l[:cap(l)]
		for i := range l {
			l[i] = 77
		}
	}
	spoil(d.Ready())
	if !d.Same(want) {
		t.Error("the queue was spoilt")
	}
	woken, late := d.Advance(4)
	spoil(woken)
	spoil(late)
	want.Advance(4)
	if !d.Same(want) || seen(d) != seen(want) {
		t.Error("late spoils")
	}
	woken, late = d.Advance(5)
	kept := slices.Clone(woken)
	ok(t, d.Wait(0, 6), d.Wait(1, 6))
	if !slices.Equal(woken, kept) {
		t.Error("woken changes")
	}
	spoil(woken)
	spoil(late)
	advances(t, d, 6, []int{0, 1}, nil)
	queue(t, d, 3, 2, 0, 1)
}

// P20.7: no Dispatch.
func TestNil(t *testing.T) {
	var d *dispatch.Dispatch
	for _, name := range names {
		for _, i := range []int{-1, 0, 1, 64} {
			for _, n := range []int{math.MinInt, -1, 0, 1, 64, last, math.MaxInt} {
				if e := (call{name, i, n}).on(d); e != api.ErrArg {
					t.Errorf("%s(%d, %d) = %d", name, i, n, e)
				}
			}
		}
	}
	for _, now := range []int{-1, 0, 5, last, last + 1} {
		advances(t, d, now, nil, nil)
	}
	queue(t, d)
	if d.Table() != nil || d.Clone() != nil || !d.Same(nil) || d.Same(of(t)) || of(t).Same(d) || of(t, 3).Same(nil) {
		t.Error(d.Table(), d.Clone())
	}
}
