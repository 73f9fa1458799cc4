package lock_test

import (
	"math"
	"slices"
	"testing"

	"monocoque/api"
	"monocoque/lock"
)

// The chapter's example.
func TestExample(t *testing.T) {
	l := of(t, 5, 9)
	takes(t, l, 1, 3, 0)
	raised(t, l, 1, 5, 0)
	waits(t, l, 2, 4, 0)
	waits(t, l, 3, 5, 0)
	line(t, l, 0, 3, 2)
	gives(t, l, 1, 0, 3)
	refuses(t, l, 2, 4, 1, api.ErrState)
	refuses(t, l, 4, 7, 0, api.ErrRights)
}

// P21.1: numbers of locks and ceilings at and beyond what may be; too many is told ahead of a wrong ceiling.
func TestNew(t *testing.T) {
	for n := range 40 {
		for _, c := range append([]int{1, 2, 31, 62, 63}, wrongPriorities...) {
			for at := range max(n, 1) {
				ceilings := slices.Repeat([]int{7}, n)
				if n > 0 {
					ceilings[at] = c
				}
				kept := slices.Clone(ceilings)
				want := api.OK
				if n > 16 {
					want = api.ErrFull
				} else if n > 0 && slices.Contains(wrongPriorities, c) {
					want = api.ErrRange
				}
				l, e := lock.New(ceilings)
				if e != want || (l == nil) != (e != api.OK) || !slices.Equal(ceilings, kept) {
					t.Fatalf("New(%v) = %v, %d, want %d", kept, l, e, want)
				}
			}
		}
	}
}

// P21.1: all are free, none or as many as may be, and none is beyond them.
func TestNewLocksAreFree(t *testing.T) {
	for n := range 17 {
		l := of(t, slices.Repeat([]int{7}, n)...)
		for k := range 20 {
			free(t, l, k)
			if k >= n {
				refuses(t, l, 3, 7, k, api.ErrNone)
				keeps(t, l, 3, k, api.ErrNone)
				continue
			}
			keeps(t, l, 3, k, api.ErrRights)
			takes(t, l.Clone(), 3, 7, k)
		}
		for _, id := range append(farIds, -1, math.MinInt) {
			raised(t, l, id, 0)
			if l.Leave(id) || l.Drop(id) != nil {
				t.Error(id)
			}
		}
	}
	a, b := of(t, 5), of(t, 5)
	takes(t, a, 1, 1, 0)
	free(t, b, 0)
}

// P21.1: the ceilings are kept as they were passed, whatever becomes of the list.
func TestNewKeepsCeilings(t *testing.T) {
	ceilings := []int{5, 9}
	l := of(t, ceilings...)
	m, _ := lock.New(ceilings)
	clear(ceilings)
	takes(t, m, 1, 5, 0)
	raised(t, m, 1, 5, 0)
	takes(t, l, 1, 5, 0)
	if !l.Same(m) {
		t.Error("a ceiling changed with the list")
	}
}

// P21.2: each base against each ceiling, for a lock that is free and for one that is not.
func TestBaseAndCeiling(t *testing.T) {
	for ceiling := 1; ceiling <= 63; ceiling++ {
		for base := 1; base <= 63; base++ {
			l := of(t, 63, ceiling)
			m := l.Clone()
			takes(t, m, 9, 1, 1)
			if base > ceiling {
				refuses(t, l, 2, base, 1, api.ErrRights)
				refuses(t, m, 2, base, 1, api.ErrRights)
				continue
			}
			takes(t, l, 2, base, 1)
			raised(t, l, 2, ceiling, 1)
			waits(t, m, 2, base, 1)
			raised(t, m, 2, 0)
		}
	}
}

// P21.2: ids from 0 on, and all other wrong numbers, each of them alone.
func TestTakeWrongNumbers(t *testing.T) {
	for _, id := range farIds {
		l := of(t, 5, 9)
		for _, n := range wrongLocks {
			refuses(t, l, id, 3, n, api.ErrNone)
		}
		refuses(t, l, id, 3, 2, api.ErrNone)
		for _, base := range wrongPriorities {
			refuses(t, l, id, base, 0, api.ErrRange)
		}
		takes(t, l, id, 3, 1)
		owned(t, l, 1, id)
	}
	l := of(t, 5)
	for _, id := range []int{math.MinInt, -64, -2, -1} {
		refuses(t, l, id, 3, 0, api.ErrRange)
		keeps(t, l, id, 0, api.ErrRights)
	}
}

// P21.2: where several errors of Take apply, the first one is told.
func TestTakeErrorsInOrder(t *testing.T) {
	l := of(t, 5, 9, 7)
	takes(t, l, 1, 3, 0)
	takes(t, l, 2, 3, 1)
	waits(t, l, 2, 3, 0)
	refuses(t, l, -1, 3, 5, api.ErrRange)
	refuses(t, l, 2, 64, 5, api.ErrRange)
	refuses(t, l, 2, 0, 1, api.ErrRange)
	refuses(t, l, 1, 64, 0, api.ErrRange)
	refuses(t, l, 2, 3, 3, api.ErrNone)
	refuses(t, l, 2, 3, -1, api.ErrNone)
	refuses(t, l, 2, 60, 0, api.ErrState) // the one for which it waits
	refuses(t, l, 2, 60, 1, api.ErrState) // its own
	refuses(t, l, 2, 60, 2, api.ErrState)
	refuses(t, l, 2, 3, 2, api.ErrState)
	refuses(t, l, 1, 60, 0, api.ErrTwice)
	refuses(t, l, 1, 3, 0, api.ErrTwice)
	refuses(t, l, 1, 60, 1, api.ErrRights)
}

// P21.2: where several errors of Give apply, the first one is told.
func TestGiveErrorsInOrder(t *testing.T) {
	l := of(t, 5, 9, 7)
	takes(t, l, 1, 3, 0)
	takes(t, l, 2, 3, 1)
	waits(t, l, 2, 3, 0)
	for _, id := range []int{math.MinInt, -1, 0, 1, 2, 3, math.MaxInt} {
		for _, n := range append(wrongLocks, 3) {
			keeps(t, l, id, n, api.ErrNone)
		}
		if id != 1 && id != 2 {
			keeps(t, l, id, 0, api.ErrRights)
			keeps(t, l, id, 2, api.ErrRights)
		}
	}
	keeps(t, l, 2, 0, api.ErrState)
	keeps(t, l, 2, 1, api.ErrState) // its own
	keeps(t, l, 2, 2, api.ErrState)
	keeps(t, l, 1, 1, api.ErrRights)
	keeps(t, l, 1, 2, api.ErrRights)
	gives(t, l, 1, 0, 2)
	keeps(t, l, 1, 0, api.ErrRights)
	gives(t, l, 2, 0)
	keeps(t, l, 2, 0, api.ErrRights)
	gives(t, l, 2, 1)
	free(t, l, 0, 1, 2)
}

// P21.2 and the terms: the greatest priority first, and of equals the one that came first, in whichever order they come.
func TestOrderOfWaiting(t *testing.T) {
	for _, x := range []struct{ bases, want []int }{
		{[]int{3}, []int{0}},
		{[]int{3, 3, 3, 3}, []int{0, 1, 2, 3}},
		{[]int{1, 2, 3, 4}, []int{3, 2, 1, 0}},
		{[]int{4, 3, 2, 1}, []int{0, 1, 2, 3}},
		{[]int{2, 1, 2, 3, 1, 3, 2}, []int{3, 5, 0, 2, 6, 1, 4}},
		{[]int{63, 1, 63, 1, 62, 2}, []int{0, 2, 4, 5, 1, 3}},
	} {
		l := of(t, 7, 63)
		takes(t, l, 100, 1, 1)
		for id, base := range x.bases {
			waits(t, l, id, base, 1)
			owned(t, l, 1, 100)
		}
		line(t, l, 1, x.want...)
		free(t, l, 0)
		owner := 100
		for i, id := range x.want {
			line(t, l, 1, x.want[i:]...)
			gives(t, l, owner, 1, id)
			owner = id
			owned(t, l, 1, id)
		}
		gives(t, l, owner, 1)
		free(t, l, 1)
	}
}

// P21.2: an id that got a lock no longer waits, so it asks for others, and may be refused this one.
func TestGotOneGoesOn(t *testing.T) {
	l := of(t, 5, 9)
	takes(t, l, 1, 3, 0)
	waits(t, l, 2, 3, 0)
	gives(t, l, 1, 0, 2)
	refuses(t, l, 2, 3, 0, api.ErrTwice)
	takes(t, l, 2, 9, 1)
	raised(t, l, 2, 9, 0, 1)
	waits(t, l, 1, 4, 1)
	gives(t, l, 2, 1, 1)
	raised(t, l, 2, 5, 0)
	raised(t, l, 1, 9, 1)
}

// P21.3: the greatest ceiling counts, whichever place it has and in whichever order the locks came and go.
func TestRaisedAndHeld(t *testing.T) {
	l := of(t, 8, 3, 63, 1, 8)
	for _, n := range []int{3, 1, 4, 2, 0} {
		takes(t, l, 6, 1, n)
	}
	raised(t, l, 6, 63, 0, 1, 2, 3, 4)
	gives(t, l, 6, 2)
	raised(t, l, 6, 8, 0, 1, 3, 4)
	gives(t, l, 6, 0)
	raised(t, l, 6, 8, 1, 3, 4)
	gives(t, l, 6, 4)
	raised(t, l, 6, 3, 1, 3)
	gives(t, l, 6, 1)
	raised(t, l, 6, 1, 3)
	gives(t, l, 6, 3)
	raised(t, l, 6, 0)
}

// P21.3: the id 0 is one like the others, though 0 stands for nobody as well.
func TestTheIdZero(t *testing.T) {
	l := of(t, 5, 5)
	raised(t, l, 0, 0)
	takes(t, l, 0, 1, 0)
	owned(t, l, 0, 0)
	if id, ok := l.Owner(1); ok || id != 0 {
		t.Error(id, ok)
	}
	takes(t, l, 1, 1, 1)
	waits(t, l, 0, 1, 1)
	line(t, l, 1, 0)
	if got := l.Drop(1); !slices.Equal(got, []int{0}) {
		t.Error(got)
	}
	raised(t, l, 0, 5, 0, 1)
}

// P21.3: Owner, Waiting, Raised, Held, Leave and Drop of what does not exist.
func TestWrongNumbers(t *testing.T) {
	l := of(t, slices.Repeat([]int{9}, 16)...)
	for n := range 16 {
		takes(t, l, 1, 1, n)
	}
	waits(t, l, 2, 1, 0)
	before, looks := l.Clone(), seen(l)
	free(t, l, wrongLocks...)
	for _, id := range []int{math.MinInt, -2, -1, 0, 3, 1 << 32, math.MaxInt} {
		raised(t, l, id, 0)
		if l.Leave(id) {
			t.Errorf("Leave(%d) = true", id)
		}
		if got := l.Drop(id); got != nil {
			t.Errorf("Drop(%d) = %v", id, got)
		}
	}
	if !l.Same(before) || seen(l) != looks {
		t.Error("something changed")
	}
}

// P21.3: each place of a line may be left, and nothing else changes.
func TestLeave(t *testing.T) {
	for id := range 5 {
		l := of(t, 9, 9)
		takes(t, l, 10, 1, 0)
		takes(t, l, id, 1, 1)
		want := []int{}
		for k := range 5 {
			waits(t, l, k, 4, 0)
			if k != id {
				want = append(want, k)
			}
		}
		if !l.Leave(id) {
			t.Errorf("Leave(%d) = false", id)
		}
		line(t, l, 0, want...)
		owned(t, l, 0, 10)
		owned(t, l, 1, id)
		if l.Leave(id) || l.Leave(10) || l.Leave(11) {
			t.Error("who does not wait has left")
		}
		line(t, l, 0, want...)
		waits(t, l, id, 4, 0)
		line(t, l, 0, append(want, id)...)
	}
}

// P21.3: an id may wait for any of the locks.
func TestLeaveAnyLock(t *testing.T) {
	for n := range 16 {
		l := of(t, slices.Repeat([]int{9}, 16)...)
		for k := range 16 {
			takes(t, l, 100+k, 1, k)
			waits(t, l, k, 1, k)
		}
		refuses(t, l, n, 1, n, api.ErrState)
		if !l.Leave(n) {
			t.Error(n)
		}
		for k := range 16 {
			if k == n {
				line(t, l, k)
			} else {
				line(t, l, k, k)
			}
			owned(t, l, k, 100+k)
		}
	}
}

// P21.3: all locks go on, in the order of their numbers, each to the first one of its line; the id waits no longer.
func TestDrop(t *testing.T) {
	l := of(t, 9, 9, 9, 9, 9)
	for _, n := range []int{4, 0, 2, 3} {
		takes(t, l, 1, 3, n)
	}
	takes(t, l, 2, 3, 1)
	waits(t, l, 1, 3, 1)
	waits(t, l, 3, 3, 1)
	waits(t, l, 8, 3, 4)
	waits(t, l, 9, 4, 4)
	waits(t, l, 7, 3, 2)
	waits(t, l, 5, 3, 0)
	waits(t, l, 4, 3, 0)
	if got := l.Drop(1); !slices.Equal(got, []int{5, 7, 9}) {
		t.Errorf("Drop(1) = %v", got)
	}
	raised(t, l, 1, 0)
	line(t, l, 0, 4)
	line(t, l, 1, 3)
	line(t, l, 4, 8)
	free(t, l, 3)
	owned(t, l, 0, 5)
	owned(t, l, 1, 2)
	owned(t, l, 2, 7)
	owned(t, l, 4, 9)
	before := l.Clone()
	if got := l.Drop(1); got != nil || l.Leave(1) || !l.Same(before) {
		t.Errorf("Drop(1), again, = %v", got)
	}
	takes(t, l, 1, 3, 3)
}

// P21.3: Drop of an id that only waits, and of one that only has locks for which nobody waits.
func TestDropOneOfBoth(t *testing.T) {
	l := of(t, 9, 9)
	takes(t, l, 1, 3, 0)
	waits(t, l, 2, 3, 0)
	waits(t, l, 3, 3, 0)
	if got := l.Drop(2); got != nil {
		t.Error(got)
	}
	line(t, l, 0, 3)
	owned(t, l, 0, 1)
	takes(t, l, 2, 3, 1)
	if got := l.Drop(2); got != nil {
		t.Error(got)
	}
	free(t, l, 1)
	gives(t, l, 1, 0, 3)
}

// P21.4: what locks and their clone become is up to each of them.
func TestClone(t *testing.T) {
	make3 := func() *lock.Locks {
		l := of(t, 5, 9, 9)
		takes(t, l, 1, 3, 0)
		takes(t, l, 2, 3, 1)
		for id := 3; id < 7; id++ {
			waits(t, l, id, 3, 0)
		}
		l.Leave(6) // leaves memory behind the others
		return l
	}
	l, x := make3(), make3()
	c := l.Clone()
	if c == l || !c.Same(l) || !l.Same(c) || seen(c) != seen(l) {
		t.Fatal("a clone is not the same")
	}
	waits(t, c, 8, 3, 0)
	if !l.Same(x) || c.Same(l) {
		t.Error("a wait is seen, or is not")
	}
	waits(t, l, 9, 3, 0)
	line(t, c, 0, 3, 4, 5, 8)
	line(t, l, 0, 3, 4, 5, 9)
	gives(t, c, 1, 0, 3)
	takes(t, c, 1, 1, 2)
	owned(t, l, 0, 1)
	free(t, l, 2)
	gives(t, l, 2, 1)
	owned(t, c, 1, 2)
	l.Drop(1)
	line(t, l, 0, 4, 5, 9)
	line(t, c, 0, 4, 5, 8)
	if d := of(t).Clone(); d == nil || !d.Same(of(t)) {
		t.Error("none")
	}
}

// P21.4: Same looks at ceilings, owners, and who waits in which order with which priority, and at nothing else.
func TestSame(t *testing.T) {
	ask := func(l *lock.Locks, asks ...[3]int) *lock.Locks {
		for _, a := range asks {
			if _, e := l.Take(a[0], a[1], a[2]); e != api.OK {
				t.Fatal(a, e)
			}
		}
		return l
	}
	all := func() []*lock.Locks {
		return []*lock.Locks{
			of(t), of(t, 5), of(t, 6), of(t, 5, 5), of(t, 5, 6), of(t, 6, 5), of(t, 5, 5, 5),
			ask(of(t, 5), [3]int{0, 1, 0}),
			ask(of(t, 5), [3]int{1, 1, 0}),
			ask(of(t, 5, 5), [3]int{1, 1, 0}),
			ask(of(t, 5, 5), [3]int{1, 1, 1}),
			ask(of(t, 5, 5), [3]int{1, 1, 0}, [3]int{1, 1, 1}),
			ask(of(t, 5, 5), [3]int{1, 1, 0}, [3]int{2, 1, 1}),
			ask(of(t, 5, 5), [3]int{2, 1, 0}, [3]int{1, 1, 1}),
			ask(of(t, 5, 5), [3]int{1, 1, 0}, [3]int{1, 1, 1}, [3]int{2, 1, 0}),
			ask(of(t, 5, 5), [3]int{1, 1, 0}, [3]int{1, 1, 1}, [3]int{2, 1, 1}),
			ask(of(t, 5, 5), [3]int{1, 1, 0}, [3]int{1, 1, 1}, [3]int{2, 2, 0}),
			ask(of(t, 5, 5), [3]int{1, 1, 0}, [3]int{1, 1, 1}, [3]int{3, 1, 0}),
			ask(of(t, 5, 5), [3]int{1, 1, 0}, [3]int{1, 1, 1}, [3]int{2, 1, 0}, [3]int{3, 1, 0}),
			ask(of(t, 5, 5), [3]int{1, 1, 0}, [3]int{1, 1, 1}, [3]int{3, 1, 0}, [3]int{2, 1, 0}),
			ask(of(t, 5, 5), [3]int{1, 1, 0}, [3]int{1, 1, 1}, [3]int{2, 2, 0}, [3]int{3, 1, 0}),
			ask(of(t, 5, 5), [3]int{1, 1, 0}, [3]int{1, 1, 1}, [3]int{2, 1, 0}, [3]int{3, 1, 1}),
		}
	}
	for i, a := range all() {
		for j, b := range all() {
			if a.Same(b) != (i == j) {
				t.Errorf("Same of %d and %d: %v", i, j, a.Same(b))
			}
		}
	}
}

// P21.4: how locks came to be what they are, and with which base an owner asked, makes no difference.
func TestSameWhateverWasBefore(t *testing.T) {
	l, x := of(t, 5, 9), of(t, 5, 9)
	takes(t, l, 1, 3, 0)
	takes(t, l, 1, 9, 1)
	waits(t, l, 2, 4, 0)
	waits(t, l, 3, 5, 0)
	takes(t, x, 4, 1, 0)
	waits(t, x, 1, 5, 0)
	waits(t, x, 3, 5, 0)
	waits(t, x, 2, 4, 0)
	waits(t, x, 7, 5, 0)
	gives(t, x, 4, 0, 1)
	takes(t, x, 1, 2, 1)
	if l.Same(x) {
		t.Error("7 waits")
	}
	x.Leave(7)
	if !l.Same(x) || !x.Same(l) || !x.Same(x) {
		t.Error("they are the same")
	}
	for _, y := range []*lock.Locks{l, x} {
		for _, id := range []int{2, 3, 1} {
			y.Drop(id)
		}
		if !y.Same(of(t, 5, 9)) || !of(t, 5, 9).Same(y) {
			t.Error("all are free again")
		}
	}
}

// P21.4 and R4: lists that were returned are the caller's.
func TestListsAreTheCallers(t *testing.T) {
	make2 := func() *lock.Locks {
		l := of(t, 9, 9)
		takes(t, l, 1, 3, 0)
		takes(t, l, 1, 3, 1)
		for id := 2; id < 6; id++ {
			waits(t, l, id, 3, 0)
		}
		return l
	}
	l, want := make2(), make2()
	spoil(l.Waiting(0))
	spoil(l.Held(1))
	a, b := l.Waiting(0), l.Waiting(0)
	spoil(a)
	if !slices.Equal(b, []int{2, 3, 4, 5}) || !l.Same(want) || seen(l) != seen(want) {
		t.Error("Waiting and Held share")
	}
	got, _ := l.Give(1, 0)
	kept := slices.Clone(got)
	gives(t, l, 2, 0, 3)
	if !slices.Equal(got, kept) {
		t.Error("what Give returned changes")
	}
	spoil(got)
	gives(t, want, 1, 0, 2)
	gives(t, want, 2, 0, 3)
	dropped := l.Drop(3)
	spoil(dropped)
	want.Drop(3)
	if !l.Same(want) || seen(l) != seen(want) {
		t.Error("Give and Drop share")
	}
}

// P21.4: no locks at all.
func TestNil(t *testing.T) {
	var l *lock.Locks
	for _, id := range []int{math.MinInt, -1, 0, 1, math.MaxInt} {
		for _, n := range []int{math.MinInt, -1, 0, 1, 16, math.MaxInt} {
			for _, base := range []int{0, 1, 63, 64} {
				if got, e := l.Take(id, base, n); got || e != api.ErrArg {
					t.Errorf("Take(%d, %d, %d) = %v, %d", id, base, n, got, e)
				}
			}
			if got, e := l.Give(id, n); got != nil || e != api.ErrArg {
				t.Errorf("Give(%d, %d) = %v, %d", id, n, got, e)
			}
			free(t, l, n)
		}
		raised(t, l, id, 0)
		if l.Leave(id) || l.Drop(id) != nil {
			t.Error(id)
		}
	}
	if l.Clone() != nil || !l.Same(nil) || l.Same(of(t)) || of(t).Same(l) || of(t, 5).Same(nil) {
		t.Error("Clone and Same")
	}
}
