package event_test

import (
	"math"
	"math/rand"
	"slices"
	"testing"

	"monocoque/event"
)

// farIds are ids, which may be any ints.
var farIds = []int{math.MinInt, math.MinInt + 1, -64, -1, 0, 1, 63, 64, 1 << 32, math.MaxInt - 1, math.MaxInt}

// with returns an Event for which these ids wait.
func with(t *testing.T, ids ...int) *event.Event {
	t.Helper()
	e := event.New()
	for _, id := range ids {
		if e.Wait(id) {
			t.Fatalf("Wait(%d) = true", id)
		}
	}
	return e
}

// set returns an Event that is up.
func set() *event.Event {
	e := event.New()
	e.Set()
	return e
}

// holds tells whether an Event is up, and these ids wait.
func holds(t *testing.T, e *event.Event, up bool, want ...int) {
	t.Helper()
	if e.Up() != up {
		t.Errorf("Up() = %v", e.Up())
	}
	if got := e.Waiting(); !slices.Equal(got, want) {
		t.Errorf("Waiting() = %v, want %v", got, want)
	}
}

// sets makes an Event up, for which these ids waited.
func sets(t *testing.T, e *event.Event, want ...int) {
	t.Helper()
	if got := e.Set(); !slices.Equal(got, want) {
		t.Errorf("Set() = %v, want %v", got, want)
	}
	holds(t, e, true)
}

// The chapter's example.
func TestExample(t *testing.T) {
	e := with(t, 3, 1, 3)
	sets(t, e, 3, 1)
	if !e.Wait(5) {
		t.Error("it is up")
	}
	e.Reset()
	if e.Wait(5) {
		t.Error("it is down")
	}
}

// The terms: New is down, and nobody waits; two calls make two.
func TestNew(t *testing.T) {
	a, b := event.New(), event.New()
	if a == nil || b == nil || a == b {
		t.Fatal(a, b)
	}
	holds(t, a, false)
	a.Set()
	holds(t, a, true)
	holds(t, b, false)
	b.Wait(1)
	holds(t, a, true)
}

// P23.1: Set when nobody waits, and when it is up.
func TestSet(t *testing.T) {
	e := event.New()
	sets(t, e)
	sets(t, e)
	e.Reset()
	holds(t, e, false)
	e.Wait(4)
	sets(t, e, 4)
	sets(t, e)
	e.Reset()
	sets(t, e)
}

// P23.1: Reset makes it down, and takes nobody from those that wait.
func TestReset(t *testing.T) {
	e := event.New()
	e.Reset()
	holds(t, e, false)
	e.Wait(2)
	e.Wait(1)
	e.Reset()
	holds(t, e, false, 2, 1)
	sets(t, e, 2, 1)
	e.Reset()
	e.Reset()
	holds(t, e, false)
	if e.Wait(2) {
		t.Error("it is down")
	}
	holds(t, e, false, 2)
}

// P23.1: while it is up, Wait changes nothing.
func TestWaitWhileUp(t *testing.T) {
	for _, id := range farIds {
		e := set()
		for range 2 {
			if !e.Wait(id) {
				t.Errorf("Wait(%d) = false", id)
			}
			holds(t, e, true)
			if !e.Same(set()) {
				t.Errorf("Wait(%d) changes something", id)
			}
		}
		e.Reset()
		holds(t, e, false)
		sets(t, e)
	}
}

// P23.1: ids wait in the order in which they came, whichever they are.
func TestOrder(t *testing.T) {
	down := slices.Clone(farIds)
	slices.Reverse(down)
	for _, ids := range [][]int{{5}, {0, 0, 0}, {1, 2, 3}, {3, 2, 1}, {2, 3, 1}, farIds, down} {
		e := with(t, ids...)
		want := slices.Compact(slices.Clone(ids))
		holds(t, e, false, want...)
		sets(t, e, want...)
	}
}

// P23.1: an id that waits already keeps its place.
func TestWaitAgain(t *testing.T) {
	for id := range 5 {
		e := with(t, 0, 1, 2, 3, 4)
		for range 3 {
			if e.Wait(id) {
				t.Errorf("Wait(%d) = true", id)
			}
			holds(t, e, false, 0, 1, 2, 3, 4)
		}
		sets(t, e, 0, 1, 2, 3, 4)
	}
}

// P23.1: each place may be dropped, and nothing else changes; who does not wait is not dropped.
func TestDrop(t *testing.T) {
	for i, id := range farIds {
		e := with(t, farIds...)
		want := slices.Delete(slices.Clone(farIds), i, i+1)
		if !e.Drop(id) {
			t.Errorf("Drop(%d) = false", id)
		}
		holds(t, e, false, want...)
		for _, x := range []int{id, 7, -2} {
			if e.Drop(x) {
				t.Errorf("Drop(%d) = true", x)
			}
		}
		holds(t, e, false, want...)
		e.Wait(id)
		holds(t, e, false, append(want, id)...)
		sets(t, e, append(want, id)...)
	}
	for _, e := range []*event.Event{event.New(), set()} {
		want := e.Clone()
		for _, id := range farIds {
			if e.Drop(id) || !e.Same(want) {
				t.Errorf("Drop(%d) where nobody waits", id)
			}
		}
	}
	e := with(t, 1)
	e.Drop(1)
	sets(t, e)
}

// P23.2: what an Event and its clone become is up to each of them.
func TestClone(t *testing.T) {
	e := with(t, 1, 2, 3, 4, 5)
	e.Drop(5) // leaves memory behind the others
	c := e.Clone()
	if c == e || !c.Same(e) || !e.Same(c) {
		t.Fatal("a clone is not the same")
	}
	c.Wait(8)
	e.Wait(9)
	holds(t, c, false, 1, 2, 3, 4, 8)
	holds(t, e, false, 1, 2, 3, 4, 9)
	c.Drop(1)
	c.Drop(3)
	holds(t, c, false, 2, 4, 8)
	holds(t, e, false, 1, 2, 3, 4, 9)
	sets(t, e, 1, 2, 3, 4, 9)
	holds(t, c, false, 2, 4, 8)
	d := e.Clone()
	holds(t, d, true)
	d.Reset()
	d.Wait(6)
	holds(t, e, true)
	holds(t, d, false, 6)
}

// P23.2: Same looks at the flag, and at who waits in which order.
func TestSame(t *testing.T) {
	all := func() []*event.Event {
		return []*event.Event{
			event.New(), set(), with(t, 0), with(t, 1), with(t, -1), with(t, 0, 1), with(t, 1, 0), with(t, 1, 2), with(t, 0, 1, 2),
			with(t, 0, 2, 1), with(t, math.MinInt), with(t, math.MaxInt),
		}
	}
	for i, a := range all() {
		for j, b := range all() {
			if a.Same(b) != (i == j) {
				t.Errorf("Same of %d and %d: %v", i, j, a.Same(b))
			}
		}
	}
	x := set()
	x.Reset()
	for _, id := range []int{5, 1, 7, 2} {
		x.Wait(id)
	}
	y := with(t, 1, 2)
	if x.Same(y) {
		t.Error("5 and 7 wait")
	}
	x.Drop(7)
	x.Drop(5)
	if !x.Same(y) || !y.Same(x) || !x.Same(x) {
		t.Error("how they came to be what they are makes a difference")
	}
	x.Set()
	if !x.Same(set()) || x.Same(y) {
		t.Error("it is up")
	}
	x.Reset()
	if !x.Same(event.New()) {
		t.Error("it is down again")
	}
}

// P23.3: lists that were returned are the caller's.
func TestListsAreTheCallers(t *testing.T) {
	spoil := func(l []int) {
		l = l[:cap(l)]
		for i := range l {
			l[i] = 77
		}
	}
	e := with(t, 1, 2, 3)
	a, b := e.Waiting(), e.Waiting()
	spoil(a)
	if !slices.Equal(b, []int{1, 2, 3}) {
		t.Error("two lists share")
	}
	holds(t, e, false, 1, 2, 3)
	e.Drop(1)
	e.Wait(4)
	if !slices.Equal(b, []int{1, 2, 3}) {
		t.Error("a list changes")
	}
	c := e.Clone()
	woken := e.Set()
	e.Reset()
	e.Wait(5)
	e.Wait(6)
	if !slices.Equal(woken, []int{2, 3, 4}) {
		t.Error("what Set returned changes")
	}
	spoil(woken)
	holds(t, e, false, 5, 6)
	holds(t, c, false, 2, 3, 4)
}

// P23.2 and P23.3: no Event.
func TestNil(t *testing.T) {
	var e *event.Event
	for _, id := range farIds {
		if e.Wait(id) || e.Drop(id) {
			t.Error(id)
		}
	}
	e.Reset()
	if e.Set() != nil || e.Waiting() != nil || e.Up() || e.Clone() != nil {
		t.Error("something of nothing")
	}
	if !e.Same(nil) {
		t.Error("two nil Events are equal")
	}
	for _, x := range []*event.Event{event.New(), set(), with(t, 1)} {
		if e.Same(x) || x.Same(e) || x.Same(nil) {
			t.Error("a nil Event is not equal to another")
		}
	}
}

// P23.1 to P23.3: any calls in any order, against the definition.
func TestAgainstTheDefinition(t *testing.T) {
	dice := rand.New(rand.NewSource(23))
	for range 500 {
		e, up, line := event.New(), false, []int{}
		for range 100 {
			id := dice.Intn(8) - 2
			place := slices.Index(line, id)
			switch dice.Intn(12) {
			case 0:
				sets(t, e, line...)
				up, line = true, nil
			case 1, 2:
				e.Reset()
				up = false
			case 3, 4:
				if e.Drop(id) != (place >= 0) {
					t.Fatalf("Drop(%d) of %v", id, line)
				}
				if place >= 0 {
					line = slices.Delete(line, place, place+1)
				}
			case 5:
				e = e.Clone()
			default:
				if e.Wait(id) != up {
					t.Fatalf("Wait(%d) = %v", id, !up)
				}
				if !up && place < 0 {
					line = append(line, id)
				}
			}
			holds(t, e, up, line...)
			if up && len(e.Waiting()) > 0 {
				t.Error("someone waits while it is up")
			}
			if t.Failed() {
				t.FailNow()
			}
		}
	}
}
