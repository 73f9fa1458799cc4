package delta_test

import (
	"math"
	"math/rand"
	"slices"
	"testing"

	"monocoque/delta"
)

// set is one call of Set.
type set struct{ id, at int }

// with returns Timers that were set in this order.
func with(l ...set) *delta.Timers {
	t := delta.New()
	for _, x := range l {
		t.Set(x.id, x.at)
	}
	return t
}

// order returns all ids in their order, and leaves the Timers as they are.
func order(t *delta.Timers) []int { return t.Clone().Due(math.MaxInt) }

// holds tells whether t has these ids with these ticks in this order, by each method that tells of them.
func holds(t *testing.T, x *delta.Timers, want ...set) {
	t.Helper()
	if x.Len() != len(want) {
		t.Errorf("Len() = %d, want %d", x.Len(), len(want))
	}
	var ids []int
	for _, s := range want {
		ids = append(ids, s.id)
		if at, ok := x.At(s.id); !ok || at != s.at {
			t.Errorf("At(%d) = %d, %v, want %d", s.id, at, ok, s.at)
		}
	}
	if got := order(x); !slices.Equal(got, ids) {
		t.Errorf("the ids are %v, want %v", got, ids)
	}
	next, ok := x.Next()
	if ok != (len(want) > 0) || ok && next != want[0].at || !ok && next != 0 {
		t.Errorf("Next() = %d, %v, want that of %v", next, ok, want)
	}
}

// The chapter's example.
func TestExample(t *testing.T) {
	x := with(set{7, 5}, set{8, 3}, set{9, 5}, set{7, 5})
	if got := x.Due(5); !slices.Equal(got, []int{8, 9, 7}) {
		t.Error(got)
	}
	holds(t, x)
}

// P4.1: New has no ids, and two calls give two.
func TestNew(t *testing.T) {
	a, b := delta.New(), delta.New()
	holds(t, a)
	a.Set(1, 2)
	holds(t, a, set{1, 2})
	holds(t, b)
}

// P4.1 and P4.2: asking when there are no ids.
func TestNoIds(t *testing.T) {
	never, gone, due := delta.New(), with(set{3, 4}, set{5, 4}), with(set{3, 4}, set{5, 4})
	gone.Drop(5)
	gone.Drop(3)
	due.Due(4)
	for _, x := range []*delta.Timers{never, gone, due, never.Clone(), gone.Clone()} {
		for _, n := range []int{math.MinInt, -1, 0, 1, 3, 4, 5, math.MaxInt} {
			if at, ok := x.At(n); ok || at != 0 {
				t.Errorf("At(%d) = %d, %v", n, at, ok)
			}
			if x.Drop(n) {
				t.Errorf("Drop(%d) = true", n)
			}
			if l := x.Due(n); len(l) != 0 {
				t.Errorf("Due(%d) = %v", n, l)
			}
		}
		if next, ok := x.Next(); ok || next != 0 || x.Len() != 0 {
			t.Error("Next and Len:", next, ok, x.Len())
		}
		for _, y := range []*delta.Timers{never, gone, due} {
			if !x.Same(y) || !y.Same(x) {
				t.Error("two without ids are not the same")
			}
		}
	}
}

// P4.1: an id that is set again, at the same tick and at others; the others keep their order.
func TestSetAgain(t *testing.T) {
	start := []set{{1, 5}, {2, 5}, {3, 5}, {4, 8}, {5, 8}}
	for _, x := range []struct {
		again set
		want  []set
	}{
		{set{1, 5}, []set{{2, 5}, {3, 5}, {1, 5}, {4, 8}, {5, 8}}},
		{set{2, 5}, []set{{1, 5}, {3, 5}, {2, 5}, {4, 8}, {5, 8}}},
		{set{3, 5}, []set{{1, 5}, {2, 5}, {3, 5}, {4, 8}, {5, 8}}},
		{set{1, 8}, []set{{2, 5}, {3, 5}, {4, 8}, {5, 8}, {1, 8}}},
		{set{4, 5}, []set{{1, 5}, {2, 5}, {3, 5}, {4, 5}, {5, 8}}},
		{set{4, 4}, []set{{4, 4}, {1, 5}, {2, 5}, {3, 5}, {5, 8}}},
		{set{2, 6}, []set{{1, 5}, {3, 5}, {2, 6}, {4, 8}, {5, 8}}},
		{set{2, 9}, []set{{1, 5}, {3, 5}, {4, 8}, {5, 8}, {2, 9}}},
		{set{6, 5}, []set{{1, 5}, {2, 5}, {3, 5}, {6, 5}, {4, 8}, {5, 8}}},
		{set{5, math.MinInt}, []set{{5, math.MinInt}, {1, 5}, {2, 5}, {3, 5}, {4, 8}}},
		{set{1, math.MaxInt}, []set{{2, 5}, {3, 5}, {4, 8}, {5, 8}, {1, math.MaxInt}}},
	} {
		y := with(start...)
		holds(t, y, start...)
		y.Set(x.again.id, x.again.at)
		holds(t, y, x.want...)
		if t.Failed() {
			t.Fatal("after", x.again)
		}
	}
}

// P4.1: an id that was dropped and one that was due are no longer set; set anew they come last.
func TestSetAnew(t *testing.T) {
	x := with(set{1, 5}, set{2, 5}, set{3, 5})
	if !x.Drop(1) || x.Drop(1) {
		t.Error("Drop")
	}
	holds(t, x, set{2, 5}, set{3, 5})
	if at, ok := x.At(1); ok || at != 0 {
		t.Error(at, ok)
	}
	x.Set(1, 5)
	holds(t, x, set{2, 5}, set{3, 5}, set{1, 5})
	x.Due(5)
	x.Set(3, 5)
	x.Set(2, 5)
	holds(t, x, set{3, 5}, set{2, 5})
}

// P4.1: each place of a list may be dropped, and nothing else changes.
func TestDrop(t *testing.T) {
	all := []set{{4, 1}, {3, 1}, {2, 1}, {1, 2}, {0, 3}}
	for i, s := range all {
		x := with(all...)
		if !x.Drop(s.id) {
			t.Errorf("Drop(%d) = false", s.id)
		}
		holds(t, x, slices.Delete(slices.Clone(all), i, i+1)...)
	}
	x := with(all...)
	for _, id := range []int{5, -1, math.MinInt, math.MaxInt} {
		if x.Drop(id) {
			t.Errorf("Drop(%d) = true", id)
		}
		if at, ok := x.At(id); ok || at != 0 {
			t.Errorf("At(%d) = %d, %v", id, at, ok)
		}
	}
	holds(t, x, all...)
}

// P4.1 and P4.2: ids and ticks that are negative or at the far ends of int.
func TestFarEnds(t *testing.T) {
	ends := []int{math.MinInt, math.MinInt + 1, -1, 0, 1, 1 << 39, math.MaxInt - 1, math.MaxInt}
	x := delta.New()
	for i := range ends {
		x.Set(ends[len(ends)-1-i], ends[(i*3)%len(ends)]) // 3 and 8 have no divisor in common: each tick once
	}
	var want []set
	for i := range ends {
		want = append(want, set{ends[len(ends)-1-i], ends[(i*3)%len(ends)]})
	}
	slices.SortFunc(want, func(a, b set) int {
		if a.at < b.at {
			return -1
		}
		return 1
	})
	holds(t, x, want...)
	for _, now := range ends {
		if l := x.Due(now); !slices.Equal(l, []int{want[0].id}) {
			t.Errorf("Due(%d) = %v, want %d", now, l, want[0].id)
		}
		want = want[1:]
		holds(t, x, want...)
	}
}

// P4.2: Due takes what is due at now, and leaves what is due one tick later.
func TestDue(t *testing.T) {
	all := []set{{1, -2}, {2, 4}, {3, 4}, {4, 5}, {5, 7}}
	for now := -4; now <= 9; now++ {
		x := with(all...)
		var due []int
		rest := slices.Clone(all)
		for len(rest) > 0 && rest[0].at <= now {
			due = append(due, rest[0].id)
			rest = rest[1:]
		}
		if l := x.Due(now); !slices.Equal(l, due) {
			t.Errorf("Due(%d) = %v, want %v", now, l, due)
		}
		if l := x.Due(now); len(l) != 0 {
			t.Errorf("Due(%d), again, = %v", now, l)
		}
		holds(t, x, rest...)
	}
}

// P4.2: what Due returned is the caller's.
func TestDueIsItsOwn(t *testing.T) {
	x := with(set{1, 1}, set{2, 2}, set{3, 3})
	l := x.Due(2)
	x.Set(8, 1)
	x.Set(9, 2)
	if !slices.Equal(l, []int{1, 2}) {
		t.Error(l)
	}
	l = l[:cap(l)]
	for i := range l {
		l[i] = 77
	}
	holds(t, x, set{8, 1}, set{9, 2}, set{3, 3})
}

// P4.1: what Timers and their clone become is up to each of them.
func TestClone(t *testing.T) {
	x := with(set{1, 5}, set{2, 5}, set{3, 6}, set{4, 7})
	x.Drop(4) // leaves memory behind the others
	c := x.Clone()
	if c == x || !c.Same(x) || !x.Same(c) {
		t.Fatal("a clone is another one")
	}
	holds(t, c, set{1, 5}, set{2, 5}, set{3, 6})
	c.Set(1, 5)
	x.Set(5, 4)
	holds(t, c, set{2, 5}, set{1, 5}, set{3, 6})
	holds(t, x, set{5, 4}, set{1, 5}, set{2, 5}, set{3, 6})
	x.Due(5)
	c.Set(6, 9)
	holds(t, c, set{2, 5}, set{1, 5}, set{3, 6}, set{6, 9})
	holds(t, x, set{3, 6})
	x.Set(7, 9)
	c.Drop(3)
	holds(t, c, set{2, 5}, set{1, 5}, set{6, 9})
	holds(t, x, set{3, 6}, set{7, 9})
	e := delta.New()
	d := e.Clone()
	d.Set(1, 1)
	holds(t, e)
	holds(t, d, set{1, 1})
}

// P4.2: Same looks at ids, ticks and order, and at nothing else.
func TestSame(t *testing.T) {
	lists := [][]set{
		nil,
		{{1, 5}},
		{{1, 6}},
		{{2, 5}},
		{{0, 0}},
		{{1, 5}, {2, 5}},
		{{2, 5}, {1, 5}},
		{{1, 5}, {2, 6}},
		{{2, 5}, {1, 6}},
		{{1, 5}, {2, 5}, {3, 5}},
		{{1, 5}, {3, 5}, {2, 5}},
		{{math.MinInt, math.MaxInt}},
		{{math.MaxInt, math.MinInt}},
	}
	for i, a := range lists {
		for j, b := range lists {
			x, y := with(a...), with(b...)
			if x.Same(y) != (i == j) {
				t.Errorf("Same of %v and %v: %v", a, b, x.Same(y))
			}
		}
	}
	x := with(set{1, 5}, set{2, 5}, set{3, 6})
	y := with(set{9, 9}, set{3, 6}, set{2, 1}, set{1, 5}, set{2, 5})
	if x.Same(y) {
		t.Error("an id more")
	}
	y.Drop(9)
	if !x.Same(y) || !y.Same(x) || !x.Same(x) {
		t.Error("how they came to be what they are makes a difference")
	}
}

// model is Timers by the definition: in the order of setting, told by a stable sort.
type model []set

func (m model) without(id int) model {
	return slices.DeleteFunc(slices.Clone(m), func(s set) bool { return s.id == id })
}

func (m model) sorted() []set {
	l := slices.Clone(m)
	slices.SortStableFunc(l, func(a, b set) int { return a.at - b.at })
	return l
}

// P4.1 and P4.2: any calls in any order, against the definition.
func TestAgainstTheDefinition(t *testing.T) {
	dice := rand.New(rand.NewSource(4))
	for range 200 {
		x := delta.New()
		var m model
		for range 150 {
			id, at := dice.Intn(9)-4, dice.Intn(7)-3
			switch dice.Intn(8) {
			case 0, 1, 2, 3:
				x.Set(id, at)
				m = append(m.without(id), set{id, at})
			case 4:
				if rest := m.without(id); x.Drop(id) != (len(rest) < len(m)) {
					t.Fatalf("Drop(%d) of %v", id, m)
				}
				m = m.without(id)
			case 5:
				if dice.Intn(3) > 0 {
					continue
				}
				var due []int
				for _, s := range m.sorted() {
					if s.at <= at {
						due = append(due, s.id)
						m = m.without(s.id)
					}
				}
				if l := x.Due(at); !slices.Equal(l, due) {
					t.Fatalf("Due(%d) = %v, want %v", at, l, due)
				}
			case 6:
				x = x.Clone()
			case 7:
				if y := with(m.sorted()...); !x.Same(y) || !y.Same(x) {
					t.Fatal("not the same:", m)
				}
			}
			holds(t, x, m.sorted()...)
			if t.Failed() {
				t.FailNow()
			}
		}
	}
}
