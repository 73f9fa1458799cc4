package ready_test

import (
	"math"
	"math/rand"
	"slices"
	"testing"

	"monocoque/api"
	"monocoque/ready"
)

// entry is an id with its priority.
type entry struct{ id, priority int }

// with returns a list to which these were added at the end, in this order.
func with(t *testing.T, l ...entry) *ready.List {
	t.Helper()
	x := ready.New()
	for _, n := range l {
		if e := x.Put(n.id, n.priority); e != api.OK {
			t.Fatalf("Put(%d, %d) = %d", n.id, n.priority, e)
		}
	}
	return x
}

// holds tells whether x has these ids with these priorities in this order, by each method that tells of them.
func holds(t *testing.T, x *ready.List, want ...entry) {
	t.Helper()
	var ids []int
	for _, n := range want {
		ids = append(ids, n.id)
		if p, ok := x.Priority(n.id); !ok || p != n.priority {
			t.Errorf("Priority(%d) = %d, %v, want %d", n.id, p, ok, n.priority)
		}
	}
	if got := x.All(); !slices.Equal(got, ids) {
		t.Errorf("All() = %v, want %v", got, ids)
	}
	if x.Len() != len(ids) {
		t.Errorf("Len() = %d, want %d", x.Len(), len(ids))
	}
	id, ok := x.Peek()
	if ok != (len(ids) > 0) || ok && id != ids[0] || !ok && id != 0 {
		t.Errorf("Peek() = %d, %v, want the first of %v", id, ok, ids)
	}
}

// drain takes all ids of x, one by one.
func drain(t *testing.T, x *ready.List, want ...entry) {
	t.Helper()
	for i, n := range want {
		holds(t, x, want[i:]...)
		if id, ok := x.Take(); !ok || id != n.id {
			t.Errorf("Take() = %d, %v, want %d", id, ok, n.id)
		}
	}
	for range 2 {
		holds(t, x)
		if id, ok := x.Take(); ok || id != 0 {
			t.Errorf("Take() = %d, %v of a list without ids", id, ok)
		}
	}
}

// The chapter's example.
func TestExample(t *testing.T) {
	x := with(t, entry{7, 3}, entry{8, 5}, entry{9, 5})
	if e := x.Front(6, 5); e != api.OK {
		t.Error(e)
	}
	if l := x.All(); !slices.Equal(l, []int{6, 8, 9, 7}) {
		t.Error(l)
	}
	if !x.Change(8, 3) {
		t.Error("Change")
	}
	drain(t, x, entry{6, 5}, entry{9, 5}, entry{7, 3}, entry{8, 3})
}

// P5.1: New has no ids, and two calls give two.
func TestNew(t *testing.T) {
	a, b := ready.New(), ready.New()
	holds(t, a)
	a.Put(0, 0)
	holds(t, a, entry{0, 0})
	drain(t, b)
	for _, id := range []int{math.MinInt, -1, 0, 1, math.MaxInt} {
		p, ok := b.Priority(id)
		if p != 0 || ok || b.Drop(id) || b.Change(id, 5) {
			t.Error("a list without ids has", id)
		}
	}
}

// adds are the two ways to add an id.
func adds() map[string]func(*ready.List, int, int) api.Errno {
	return map[string]func(*ready.List, int, int) api.Errno{"Put": (*ready.List).Put, "Front": (*ready.List).Front}
}

// P5.1: ids and priorities at and beyond the ends of what may be, with the id absent and present.
func TestErrors(t *testing.T) {
	numbers := []int{math.MinInt, -64, -1, 0, 1, 5, 62, 63, 64, 65, 127, 128, 1 << 32, math.MaxInt}
	for name, add := range adds() {
		for _, id := range numbers {
			for _, priority := range numbers {
				for _, there := range []bool{false, true} {
					x := with(t, entry{3, 5})
					want := []entry{{3, 5}}
					if there && id >= 0 {
						x.Put(id, 7)
						want = []entry{{id, 7}, {3, 5}}
					}
					e := api.OK
					switch {
					case id < 0 || priority < 0 || priority > 63:
						e = api.ErrRange
					case there:
						e = api.ErrTwice
					}
					if got := add(x, id, priority); got != e {
						t.Errorf("%s(%d, %d) = %d, want %d", name, id, priority, got, e)
					}
					if e != api.OK {
						holds(t, x, want...)
						continue
					}
					if p, ok := x.Priority(id); !ok || p != priority || x.Len() != 2 {
						t.Errorf("after %s(%d, %d) the priority is %d, %v", name, id, priority, p, ok)
					}
				}
			}
		}
	}
}

// P5.1: an id that is there already may not be added again, whatever its priority.
func TestTwice(t *testing.T) {
	for name, add := range adds() {
		for p := 0; p <= 63; p++ {
			for q := 0; q <= 63; q++ {
				x := with(t, entry{0, 30}, entry{8, p})
				before := x.Clone()
				if e := add(x, 8, q); e != api.ErrTwice || !x.Same(before) {
					t.Errorf("%s(8, %d) with 8 at %d: %d", name, q, p, e)
				}
				if e := add(x, 0, q); e != api.ErrTwice || !x.Same(before) {
					t.Errorf("%s(0, %d): %d", name, q, e)
				}
			}
		}
	}
}

// P5.1 and P5.3: of one priority the order is that of adding, but for those added at the front.
func TestFrontAndEnd(t *testing.T) {
	for _, p := range []int{0, 1, 31, 32, 62, 63} {
		x := ready.New()
		x.Put(10, p)
		x.Front(9, p)
		x.Put(11, p)
		x.Front(8, p)
		drain(t, x, entry{8, p}, entry{9, p}, entry{10, p}, entry{11, p})
		x.Front(5, p)
		x.Put(4, p)
		x.Front(6, p)
		drain(t, x, entry{6, p}, entry{5, p}, entry{4, p})
	}
}

// P5.3: all priorities, added upwards, downwards and in a mix, are taken downwards.
func TestPriorities(t *testing.T) {
	var want []entry
	for p := 63; p >= 0; p-- {
		want = append(want, entry{1000 - p, p}, entry{p, p})
	}
	for _, step := range []int{1, 63, 5, 23} { // each odd number leads through all of 64
		x := ready.New()
		for i := range 64 {
			x.Put(1000-i*step%64, i*step%64)
		}
		for i := range 64 {
			x.Put(i*step%64, i*step%64)
		}
		drain(t, x, want...)
	}
}

// P5.1: each place may be dropped, and nothing else changes.
func TestDrop(t *testing.T) {
	all := []entry{{4, 63}, {9, 63}, {7, 40}, {1, 5}, {3, 5}, {2, 5}, {8, 0}, {0, 0}}
	for i, n := range all {
		x := with(t, all...)
		if !x.Drop(n.id) {
			t.Errorf("Drop(%d) = false", n.id)
		}
		if p, ok := x.Priority(n.id); ok || p != 0 {
			t.Errorf("Priority(%d) = %d, %v after Drop", n.id, p, ok)
		}
		if x.Drop(n.id) {
			t.Errorf("Drop(%d) = true, again", n.id)
		}
		rest := slices.Delete(slices.Clone(all), i, i+1)
		holds(t, x, rest...)
		if e := x.Put(n.id, 5); e != api.OK {
			t.Errorf("Put(%d, 5) after Drop = %d", n.id, e)
		}
		x.Drop(n.id)
		drain(t, x, rest...)
	}
	x := with(t, all...)
	for _, id := range []int{math.MinInt, -1, 5, 64, math.MaxInt} {
		if x.Drop(id) {
			t.Errorf("Drop(%d) = true", id)
		}
		if p, ok := x.Priority(id); ok || p != 0 {
			t.Errorf("Priority(%d) = %d, %v", id, p, ok)
		}
	}
	holds(t, x, all...)
}

// P5.2: the same priority changes nothing, another one is entered at its end, and one that may not be is refused.
func TestChange(t *testing.T) {
	all := []entry{{4, 63}, {9, 63}, {7, 40}, {1, 5}, {3, 5}, {2, 5}, {8, 0}, {0, 0}}
	numbers := []int{math.MinInt, -1, 0, 1, 5, 39, 40, 41, 62, 63, 64, 65, 128, math.MaxInt}
	for i, n := range all {
		for _, p := range numbers {
			x := with(t, all...)
			may := p >= 0 && p <= 63
			want := slices.Clone(all)
			if may && p != n.priority {
				want = slices.Delete(want, i, i+1)
				at := 0
				for at < len(want) && want[at].priority >= p {
					at++
				}
				want = slices.Insert(want, at, entry{n.id, p})
			}
			if got := x.Change(n.id, p); got != may {
				t.Errorf("Change(%d, %d) = %v", n.id, p, got)
			}
			drain(t, x, want...)
			if t.Failed() {
				t.Fatalf("after Change(%d, %d)", n.id, p)
			}
		}
	}
	x := with(t, all...)
	for _, id := range []int{math.MinInt, -1, 5, 63, math.MaxInt} {
		for _, p := range numbers {
			if x.Change(id, p) {
				t.Errorf("Change(%d, %d) = true, but there is none", id, p)
			}
		}
	}
	holds(t, x, all...)
}

// P5.2: what a list and its clone become is up to each of them.
func TestClone(t *testing.T) {
	x := with(t, entry{1, 9}, entry{2, 9}, entry{3, 9}, entry{4, 2})
	x.Drop(3) // leaves memory behind the others
	c := x.Clone()
	if c == x || !c.Same(x) || !x.Same(c) {
		t.Fatal("a clone is another one")
	}
	holds(t, c, entry{1, 9}, entry{2, 9}, entry{4, 2})
	c.Put(5, 9)
	x.Put(6, 9)
	holds(t, c, entry{1, 9}, entry{2, 9}, entry{5, 9}, entry{4, 2})
	holds(t, x, entry{1, 9}, entry{2, 9}, entry{6, 9}, entry{4, 2})
	x.Take()
	c.Change(1, 1)
	c.Front(7, 2)
	holds(t, c, entry{2, 9}, entry{5, 9}, entry{7, 2}, entry{4, 2}, entry{1, 1})
	drain(t, x, entry{2, 9}, entry{6, 9}, entry{4, 2})
	drain(t, c, entry{2, 9}, entry{5, 9}, entry{7, 2}, entry{4, 2}, entry{1, 1})
	e := ready.New()
	d := e.Clone()
	d.Put(1, 1)
	holds(t, e)
	holds(t, d, entry{1, 1})
}

// P5.2: a list that All returned is the caller's.
func TestAllIsItsOwn(t *testing.T) {
	want := []entry{{4, 63}, {9, 63}, {7, 40}}
	x := with(t, want...)
	l := x.All()
	l = l[:cap(l)]
	for i := range l {
		l[i] = 77
	}
	holds(t, x, want...)
	one := with(t, entry{1, 1}, entry{2, 1})
	l = one.All()
	one.Take()
	one.Put(8, 1)
	if !slices.Equal(l, []int{1, 2}) {
		t.Error(l)
	}
	l[1] = 77
	drain(t, one, entry{2, 1}, entry{8, 1})
}

// P5.2: Same looks at ids, order and priorities, and at nothing else.
func TestSame(t *testing.T) {
	lists := [][]entry{
		nil,
		{{0, 0}},
		{{0, 1}},
		{{1, 0}},
		{{0, 63}},
		{{1, 5}, {2, 5}},
		{{2, 5}, {1, 5}},
		{{1, 5}, {2, 4}},
		{{1, 6}, {2, 5}},
		{{1, 5}, {2, 5}, {3, 5}},
		{{1, 5}, {2, 5}, {3, 0}},
		{{1, 5}, {3, 5}, {2, 5}},
	}
	for i, a := range lists {
		for j, b := range lists {
			x, y := with(t, a...), with(t, b...)
			if x.Same(y) != (i == j) {
				t.Errorf("Same of %v and %v: %v", a, b, x.Same(y))
			}
		}
	}
	x := with(t, entry{1, 5}, entry{2, 5}, entry{3, 0})
	y := with(t, entry{2, 5}, entry{3, 0}, entry{9, 5}, entry{8, 63})
	y.Front(1, 5)
	y.Drop(9)
	if x.Same(y) {
		t.Error("an id more")
	}
	y.Take()
	if !x.Same(y) || !y.Same(x) || !x.Same(x) {
		t.Error("how they came to be what they are makes a difference")
	}
}

// P5.3: nil lists.
func TestNilList(t *testing.T) {
	var x *ready.List
	for _, id := range []int{-1, 0, 5} {
		for _, p := range []int{-1, 0, 63, 64} {
			if e := x.Put(id, p); e != api.ErrArg {
				t.Error("Put:", e)
			}
			if e := x.Front(id, p); e != api.ErrArg {
				t.Error("Front:", e)
			}
			if x.Change(id, p) {
				t.Error("Change")
			}
		}
		if p, ok := x.Priority(id); ok || p != 0 || x.Drop(id) {
			t.Error("Priority and Drop:", p, ok)
		}
	}
	if id, ok := x.Take(); ok || id != 0 {
		t.Error("Take:", id, ok)
	}
	if id, ok := x.Peek(); ok || id != 0 {
		t.Error("Peek:", id, ok)
	}
	if len(x.All()) != 0 || x.Len() != 0 || x.Clone() != nil {
		t.Error(x.All(), x.Len(), x.Clone())
	}
	for _, y := range []*ready.List{ready.New(), with(t, entry{0, 0})} {
		if x.Same(y) || y.Same(x) || y.Same(nil) {
			t.Error("a list is the same as none")
		}
	}
	if !x.Same(nil) || !x.Same(x) {
		t.Error("no list is not the same as none")
	}
}

// model is a list by the definition: one line of entries, the first one first.
type model []entry

func (m model) place(id int) int {
	return slices.IndexFunc(m, func(n entry) bool { return n.id == id })
}

// add enters n ahead of all that are lower, and of its equals too if it is added at the front.
func (m model) add(n entry, front bool) model {
	at := 0
	for at < len(m) && (m[at].priority > n.priority || m[at].priority == n.priority && !front) {
		at++
	}
	return slices.Insert(slices.Clone(m), at, n)
}

func (m model) without(i int) model { return slices.Delete(slices.Clone(m), i, i+1) }

// P5.1 to P5.3: any calls in any order, against the definition.
func TestAgainstTheDefinition(t *testing.T) {
	dice := rand.New(rand.NewSource(5))
	levels := []int{0, 1, 31, 32, 33, 62, 63}
	for range 200 {
		x := ready.New()
		var m model
		for range 150 {
			n := entry{dice.Intn(12), levels[dice.Intn(len(levels))]}
			at := m.place(n.id)
			switch what := dice.Intn(8); what {
			case 0, 1, 2:
				add := map[bool]func(int, int) api.Errno{false: x.Put, true: x.Front}[what == 2]
				e := add(n.id, n.priority)
				if (e == api.OK) != (at < 0) || at >= 0 && e != api.ErrTwice {
					t.Fatalf("adding %v to %v: %d", n, m, e)
				}
				if at < 0 {
					m = m.add(n, what == 2)
				}
			case 3:
				id, ok := x.Take()
				if ok != (len(m) > 0) || ok && id != m[0].id {
					t.Fatalf("Take() = %d, %v of %v", id, ok, m)
				}
				if ok {
					m = m[1:]
				}
			case 4:
				if x.Drop(n.id) != (at >= 0) {
					t.Fatalf("Drop(%d) of %v", n.id, m)
				}
				if at >= 0 {
					m = m.without(at)
				}
			case 5, 6:
				if x.Change(n.id, n.priority) != (at >= 0) {
					t.Fatalf("Change of %v to %v", m, n)
				}
				if at >= 0 && m[at].priority != n.priority {
					m = m.without(at).add(n, false)
				}
			case 7:
				if y := with(t, m...); !x.Same(y) || !y.Same(x) {
					t.Fatal("not the same:", m)
				}
				x = x.Clone()
			}
			holds(t, x, m...)
			if t.Failed() {
				t.FailNow()
			}
		}
		drain(t, x, m...)
	}
}
