package dispatch_test

import (
	"cmp"
	"fmt"
	"math"
	"slices"
	"testing"

	"monocoque/api"
	"monocoque/dispatch"
	"monocoque/proc"
)

const last = 1 << 40

// wrongTicks are no ticks that may be passed.
var wrongTicks = []int{math.MinInt, -last, -2, -1, last + 1, math.MaxInt}

// of returns a Dispatch of processes with these priorities and no more.
func of(t *testing.T, priorities ...int) *dispatch.Dispatch {
	t.Helper()
	var l []proc.Attr
	for _, p := range priorities {
		l = append(l, proc.Attr{Priority: p})
	}
	return with(t, l...)
}

func with(t *testing.T, l ...proc.Attr) *dispatch.Dispatch {
	t.Helper()
	d, e := dispatch.New(l)
	if e != api.OK || d == nil {
		t.Fatalf("New(%v) = %v, %d", l, d, e)
	}
	return d
}

// started returns the same, all of them started at 0 in the order of their numbers.
func started(t *testing.T, priorities ...int) *dispatch.Dispatch {
	t.Helper()
	d := of(t, priorities...)
	for i := range priorities {
		ok(t, d.Start(i, 0))
	}
	return d
}

// ok fails if there is an error where there must be none.
func ok(t *testing.T, l ...api.Errno) {
	t.Helper()
	for i, e := range l {
		if e != api.OK {
			t.Fatalf("call %d of these: %d", i, e)
		}
	}
}

// queue tells whether the ready queue is this one, by each method that tells of it.
func queue(t *testing.T, d *dispatch.Dispatch, want ...int) {
	t.Helper()
	if got := d.Ready(); !slices.Equal(got, want) {
		t.Errorf("Ready() = %v, want %v", got, want)
	}
	i, picked := d.Pick()
	if picked != (len(want) > 0) || picked && i != want[0] || !picked && i != 0 {
		t.Errorf("Pick() = %d, %v of %v", i, picked, want)
	}
}

// advances tells whether Advance returns these processes.
func advances(t *testing.T, d *dispatch.Dispatch, now int, woken, late []int) {
	t.Helper()
	if w, l := d.Advance(now); !slices.Equal(w, woken) || !slices.Equal(l, late) {
		t.Errorf("Advance(%d) = %v, %v, want %v, %v", now, w, l, woken, late)
	}
}

// seen is all that can be seen of a Dispatch, but for what Same tells: the states, the queue, and what the timers do.
func seen(d *dispatch.Dispatch) string {
	x := d.Table()
	s := fmt.Sprint(d.Ready())
	for i := range x.Len() {
		at, timed := x.Until(i)
		s += fmt.Sprint("; ", x.Attr(i), x.State(i), x.Base(i), x.Current(i), at, timed, x.Left(i))
	}
	c := d.Clone()
	for _, now := range []int{0, 5, 10, 15, 20, 40, last} {
		woken, late := c.Advance(now)
		s += fmt.Sprint("; ", now, woken, late, c.Ready())
	}
	return s
}

// model is a Dispatch by the definition: a Table of layer 19, when each process entered the queue, and when its timer
// was set. Both are told by numbers that grow, those of a process ahead of all others are below all of them.
type model struct {
	x            *proc.Table
	count        int
	entered, set map[int]int
}

func newModel(t *testing.T, l []proc.Attr) *model {
	t.Helper()
	x, e := proc.New(l)
	ok(t, e)
	return &model{x: x, entered: map[int]int{}, set: map[int]int{}}
}

// queue sorts all processes that are ready.
func (m *model) queue() []int {
	var l []int
	for i := range m.x.Len() {
		if m.x.State(i) == proc.Ready {
			l = append(l, i)
		}
	}
	slices.SortFunc(l, func(a, b int) int {
		return cmp.Or(m.x.Current(b)-m.x.Current(a), m.entered[a]-m.entered[b])
	})
	return l
}

// due sorts the processes whose timers are due.
func (m *model) due(now int) []int {
	var l []int
	tick := func(i int) int { at, _ := m.x.Until(i); return at }
	for i := range m.x.Len() {
		if at, timed := m.x.Until(i); timed && at <= now {
			l = append(l, i)
		}
	}
	slices.SortFunc(l, func(a, b int) int { return cmp.Or(tick(a)-tick(b), m.set[a]-m.set[b]) })
	return l
}

// do calls a method of layer 19 on a process, and keeps when it enters the queue or its timer is set.
func (m *model) do(i int, f func(x *proc.Table) api.Errno) api.Errno {
	ready := m.x.State(i) == proc.Ready
	_, timed := m.x.Until(i)
	e := f(m.x)
	m.count++
	if m.x.State(i) == proc.Ready && !ready {
		m.entered[i] = m.count
	}
	if _, now := m.x.Until(i); now && !timed {
		m.set[i] = m.count
	}
	return e
}

// move places a ready process behind all others of its priority, or ahead of them.
func (m *model) move(i int, ahead bool) {
	m.count++
	m.entered[i] = m.count
	if ahead {
		m.entered[i] = -m.count
	}
}

func (m *model) advance(now int) (woken, late []int) {
	if now < 0 || now > last {
		return nil, nil
	}
	woken = m.due(now)
	for _, i := range woken {
		m.do(i, func(x *proc.Table) api.Errno {
			if x.Wake(i) == api.OK {
				return api.OK
			}
			return x.Release(i, now)
		})
	}
	return woken, m.x.Missed(now)
}

// prioritize is SetPriority and Raise.
func (m *model) prioritize(i, priority int, raise bool) api.Errno {
	before := m.x.Current(i)
	f := m.x.SetPriority
	if raise {
		f = m.x.Raise
	}
	e := f(i, priority)
	if m.x.State(i) == proc.Ready && m.x.Current(i) != before {
		m.move(i, raise)
	}
	return e
}

func (m *model) yield(i int) api.Errno {
	if i < 0 || i >= m.x.Len() {
		return api.ErrNone
	}
	if m.x.State(i) != proc.Ready {
		return api.ErrState
	}
	m.move(i, false)
	return api.OK
}

func (m *model) done(i, now int) api.Errno {
	return m.do(i, func(x *proc.Table) api.Errno {
		next, e := x.Done(i, now)
		if e == api.OK && next >= 0 && next <= now {
			m.move(i, false)
		}
		return e
	})
}
