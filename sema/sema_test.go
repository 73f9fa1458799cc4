package sema_test

import (
	"math"
	"slices"
	"testing"

	"monocoque/api"
	"monocoque/sema"
)

// The chapter's example.
func TestExample(t *testing.T) {
	s := of(t, 0, 1, true)
	waits(t, s, 1, 5)
	waits(t, s, 2, 9)
	waits(t, s, 3, 9)
	wakes(t, s, 2, 3, 1)
}

// P22.1: each pair of numbers at and beyond the ends of what may be.
func TestNew(t *testing.T) {
	numbers := []int{math.MinInt, -65536, -2, -1, 0, 1, 2, 3, 64, 65534, 65535, 65536, 65537, 1 << 32, 1<<32 + 1, math.MaxInt}
	for _, first := range numbers {
		for _, most := range numbers {
			both(func(byPriority bool) {
				s, e := sema.New(first, most, byPriority)
				if most < 1 || most > 65535 || first < 0 || first > most {
					if s != nil || e != api.ErrRange {
						t.Errorf("New(%d, %d, %v) = %v, %d, want ErrRange", first, most, byPriority, s, e)
					}
					return
				}
				if s == nil || e != api.OK {
					t.Fatalf("New(%d, %d, %v) = %v, %d", first, most, byPriority, s, e)
				}
				holds(t, s, first)
			})
		}
	}
}

// P22.1: two calls make two semaphores.
func TestNewIsItsOwn(t *testing.T) {
	a, b := of(t, 0, 3, true), of(t, 0, 3, true)
	signals(t, a, api.OK)
	waits(t, b, 1, 1)
	holds(t, a, 1)
	holds(t, b, 0, 1)
}

// P22.2: the count goes down with each wait until it is 0, and then ids wait.
func TestWait(t *testing.T) {
	both(func(byPriority bool) {
		for _, first := range []int{0, 1, 2, 5, 300} {
			s := of(t, first, 300, byPriority)
			for i := range first {
				gets(t, s, i)
				holds(t, s, first-1-i)
			}
			waits(t, s, 1000, 7)
			holds(t, s, 0, 1000)
			waits(t, s, 1001, 7)
			holds(t, s, 0, 1000, 1001)
		}
	})
}

// P22.2: whoever got it may get it again, for it does not wait.
func TestGetsItAgain(t *testing.T) {
	both(func(byPriority bool) {
		s := of(t, 2, 2, byPriority)
		gets(t, s, 4, 4)
		waits(t, s, 4, 1)
		wakes(t, s, 4)
		waits(t, s, 4, 1)
		holds(t, s, 0, 4)
	})
}

// P22.2: a signal that wakes nobody increases the count, up to the maximum and no further.
func TestSignal(t *testing.T) {
	both(func(byPriority bool) {
		for _, most := range []int{1, 2, 3, 65535} {
			for _, first := range []int{0, 1, most - 1, most} {
				s := of(t, first, most, byPriority)
				for count := first; count < most; count++ {
					if woken, is, e := s.Signal(); woken != 0 || is || e != api.OK {
						t.Fatalf("Signal() = %d, %v, %d at %d of %d", woken, is, e, count, most)
					}
				}
				for range 3 {
					holds(t, s, most)
					signals(t, s, api.ErrFull)
				}
				gets(t, s, 1)
				holds(t, s, most-1)
				signals(t, s, api.OK)
				signals(t, s, api.ErrFull)
				holds(t, s, most)
			}
		}
	})
}

// P22.2: while ids wait, a signal wakes the first one and leaves the count at 0; with the last one gone it counts again.
func TestSignalWakes(t *testing.T) {
	both(func(byPriority bool) {
		s := of(t, 0, 1, byPriority)
		for _, id := range []int{7, 0, -3} {
			waits(t, s, id, 2)
		}
		wakes(t, s, 7)
		holds(t, s, 0, 0, -3)
		wakes(t, s, 0)
		holds(t, s, 0, -3)
		wakes(t, s, -3)
		holds(t, s, 0)
		signals(t, s, api.OK)
		holds(t, s, 1)
		signals(t, s, api.ErrFull)
	})
}

// P22.2 and the terms: both orders, whichever priorities the ids have and in whichever order they come.
func TestOrders(t *testing.T) {
	for _, x := range []struct{ priorities, want []int }{
		{[]int{3}, []int{0}},
		{[]int{3, 3, 3, 3}, []int{0, 1, 2, 3}},
		{[]int{1, 2, 3, 4}, []int{3, 2, 1, 0}},
		{[]int{4, 3, 2, 1}, []int{0, 1, 2, 3}},
		{[]int{2, 1, 2, 3, 1, 3, 2}, []int{3, 5, 0, 2, 6, 1, 4}},
		{[]int{0, -1, 1, 0, -1}, []int{2, 0, 3, 1, 4}},
		{[]int{math.MinInt, math.MaxInt, 0, math.MinInt, math.MaxInt}, []int{1, 4, 2, 0, 3}},
		{[]int{1 << 32, 1, 1<<32 + 1, 0}, []int{2, 0, 1, 3}},
	} {
		both(func(byPriority bool) {
			s := of(t, 0, 9, byPriority)
			want := x.want
			if !byPriority {
				want = []int{0, 1, 2, 3, 4, 5, 6}[:len(x.priorities)]
			}
			for id, priority := range x.priorities {
				waits(t, s, id, priority)
			}
			holds(t, s, 0, want...)
			for i, id := range want {
				wakes(t, s, id)
				holds(t, s, 0, want[i+1:]...)
			}
		})
	}
}

// P22.2: an id that waits already keeps its place and its priority, whatever is asked with.
func TestWaitAgain(t *testing.T) {
	both(func(byPriority bool) {
		for id := range 5 {
			s := of(t, 0, 9, byPriority)
			for k := range 5 {
				waits(t, s, k, 5)
			}
			want := s.Clone()
			for _, priority := range append(farNumbers, 4, 5, 6) {
				waits(t, s, id, priority)
				holds(t, s, 0, 0, 1, 2, 3, 4)
				if !s.Same(want) {
					t.Errorf("Wait(%d, %d), again, changes something", id, priority)
				}
			}
			if byPriority {
				waits(t, s, 5, 6)
				waits(t, s, 6, 5)
				holds(t, s, 0, 5, 0, 1, 2, 3, 4, 6)
			}
		}
	})
}

// P22.2 and P22.3: all numbers may be ids, and priorities.
func TestFarNumbers(t *testing.T) {
	s, p := of(t, 0, 9, false), of(t, 0, 9, true)
	for i, n := range farNumbers {
		waits(t, s, n, farNumbers[(i*3)%len(farNumbers)])
		waits(t, p, n, n)
	}
	down := slices.Clone(farNumbers)
	slices.Reverse(down)
	holds(t, s, 0, farNumbers...)
	holds(t, p, 0, down...)
	for _, n := range farNumbers {
		wakes(t, s.Clone(), s.Waiting()...)
		if !s.Drop(n) || !p.Drop(n) {
			t.Errorf("Drop(%d) = false", n)
		}
	}
	holds(t, s, 0)
	holds(t, p, 0)
}

// P22.3: each place may be dropped, and nothing else changes; who does not wait is not dropped.
func TestDrop(t *testing.T) {
	both(func(byPriority bool) {
		for id := range 5 {
			s := of(t, 1, 1, byPriority)
			gets(t, s, 9)
			want := []int{0, 1, 2, 3, 4}
			for _, k := range want {
				waits(t, s, k, 5)
			}
			want = slices.Delete(want, id, id+1)
			if !s.Drop(id) {
				t.Errorf("Drop(%d) = false", id)
			}
			holds(t, s, 0, want...)
			for _, k := range []int{id, 9, 5, -1, math.MinInt, math.MaxInt} {
				if s.Drop(k) {
					t.Errorf("Drop(%d) = true", k)
				}
			}
			holds(t, s, 0, want...)
			waits(t, s, id, 5)
			holds(t, s, 0, append(want, id)...)
		}
	})
}

// P22.3: nobody waits.
func TestDropNobody(t *testing.T) {
	for _, s := range []*sema.Sema{of(t, 0, 1, true), of(t, 3, 3, false)} {
		want := s.Clone()
		for _, id := range farNumbers {
			if s.Drop(id) || !s.Same(want) {
				t.Errorf("Drop(%d)", id)
			}
		}
	}
	s := of(t, 0, 2, true)
	waits(t, s, 1, 5)
	s.Drop(1)
	signals(t, s, api.OK)
	holds(t, s, 1)
}

// P22.1: what a semaphore and its clone become is up to each of them.
func TestClone(t *testing.T) {
	both(func(byPriority bool) {
		s := of(t, 0, 2, byPriority)
		for id := range 5 {
			waits(t, s, id, 5)
		}
		s.Drop(4) // leaves memory behind the others
		c := s.Clone()
		if c == s || !c.Same(s) || !s.Same(c) {
			t.Fatal("a clone is not the same")
		}
		waits(t, c, 8, 5)
		waits(t, s, 9, 5)
		holds(t, c, 0, 0, 1, 2, 3, 8)
		holds(t, s, 0, 0, 1, 2, 3, 9)
		wakes(t, c, 0, 1)
		c.Drop(2)
		holds(t, c, 0, 3, 8)
		holds(t, s, 0, 0, 1, 2, 3, 9)
		wakes(t, s, 0, 1, 2, 3, 9)
		signals(t, s, api.OK)
		signals(t, s, api.OK)
		signals(t, s, api.ErrFull)
		holds(t, c, 0, 3, 8)
		d := s.Clone()
		gets(t, d, 1)
		holds(t, s, 2)
		holds(t, d, 1)
		signals(t, d, api.OK)
		signals(t, d, api.ErrFull)
		waits(t, c, 6, 9) // the kind of order is cloned as well
		want := []int{3, 8, 6}
		if byPriority {
			want = []int{6, 3, 8}
		}
		holds(t, c, 0, want...)
	})
}

// with returns a semaphore for which these wait: ids and priorities in turn.
func with(t *testing.T, s *sema.Sema, l ...int) *sema.Sema {
	t.Helper()
	for i := 0; i < len(l); i += 2 {
		waits(t, s, l[i], l[i+1])
	}
	return s
}

// P22.1: Same looks at the maximum, the kind of order, the count, and who waits in which order.
func TestSame(t *testing.T) {
	all := func() []*sema.Sema {
		return []*sema.Sema{
			of(t, 0, 1, false), of(t, 0, 1, true), of(t, 0, 2, false), of(t, 0, 2, true),
			of(t, 1, 2, false), of(t, 1, 2, true), of(t, 2, 2, false), of(t, 2, 2, true), of(t, 1, 1, true), of(t, 0, 65535, true),
			with(t, of(t, 0, 2, false), 1, 5), with(t, of(t, 0, 2, true), 1, 5),
			with(t, of(t, 0, 2, false), 0, 0), with(t, of(t, 0, 2, true), 0, 0),
			with(t, of(t, 0, 3, false), 1, 5), with(t, of(t, 0, 3, true), 1, 5),
			with(t, of(t, 0, 2, false), 1, 5, 2, 5), with(t, of(t, 0, 2, true), 1, 5, 2, 5),
			with(t, of(t, 0, 2, false), 2, 5, 1, 5), with(t, of(t, 0, 2, true), 2, 5, 1, 5),
			with(t, of(t, 0, 2, true), 1, 6), with(t, of(t, 0, 2, true), 1, 6, 2, 5), with(t, of(t, 0, 2, true), 1, 5, 2, 4),
			with(t, of(t, 0, 2, true), 1, 4, 2, 5),
		}
	}
	for i, a := range all() {
		for j, b := range all() {
			if a.Same(b) != (i == j) {
				t.Errorf("Same of %d and %d: %v", i, j, a.Same(b))
			}
		}
	}
}

// P22.1: by arrival, priorities make no difference; nor does how a semaphore came to be what it is.
func TestSameWhateverWasBefore(t *testing.T) {
	a, b := with(t, of(t, 0, 2, false), 1, 5, 2, 9, 3, -4), with(t, of(t, 0, 2, false), 1, 9, 2, math.MinInt, 3, 0)
	if !a.Same(b) || !b.Same(a) || !a.Same(a) {
		t.Error("by arrival")
	}
	both(func(byPriority bool) {
		x := of(t, 2, 2, byPriority)
		gets(t, x, 5, 6)
		waits(t, x, 1, 8)
		y := with(t, of(t, 0, 2, byPriority), 4, 8, 1, 8, 9, 8)
		wakes(t, y, 4)
		if x.Same(y) {
			t.Error("9 waits")
		}
		y.Drop(9)
		if !x.Same(y) || !y.Same(x) {
			t.Error("the same ids wait")
		}
		wakes(t, x, 1)
		y.Drop(1)
		signals(t, y, api.OK)
		if x.Same(y) || of(t, 0, 2, byPriority).Same(y) {
			t.Error("the counts differ")
		}
		signals(t, x, api.OK)
		if !x.Same(y) || !of(t, 1, 2, byPriority).Same(y) {
			t.Error("the counts are the same")
		}
	})
}

// P22.3 and R4: lists that were returned are the caller's.
func TestListsAreTheCallers(t *testing.T) {
	both(func(byPriority bool) {
		s := with(t, of(t, 0, 2, byPriority), 1, 5, 2, 5, 3, 5)
		a, b := s.Waiting(), s.Waiting()
		a = a[:cap(a)]
		for i := range a {
			a[i] = 77
		}
		if !slices.Equal(b, []int{1, 2, 3}) {
			t.Error("two lists share")
		}
		holds(t, s, 0, 1, 2, 3)
		wakes(t, s, 1)
		s.Drop(2)
		if !slices.Equal(b, []int{1, 2, 3}) {
			t.Error("a list changes")
		}
	})
}
