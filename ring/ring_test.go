package ring_test

import (
	"math"
	"math/rand"
	"slices"
	"testing"

	"monocoque/api"
	"monocoque/ring"
)

// must makes a Ring of room and words that may be.
func must(t *testing.T, room, words int) *ring.Ring {
	t.Helper()
	r, e := ring.New(room, words)
	if r == nil || e != api.OK {
		t.Fatalf("New(%d, %d) = %v, %d", room, words, r, e)
	}
	return r
}

// long returns a message of n words, which are told by from.
func long(n int, from uint32) []uint32 {
	m := []uint32{}
	for i := range n {
		m = append(m, from+uint32(i)*0x01010101)
	}
	return m
}

// holds tells whether r has these messages, by each method that tells of them.
func holds(t *testing.T, r *ring.Ring, want ...[]uint32) {
	t.Helper()
	if r.Len() != len(want) {
		t.Errorf("Len() = %d, want %d", r.Len(), len(want))
	}
	if all := r.All(); !slices.EqualFunc(all, want, slices.Equal) {
		t.Errorf("All() = %v, want %v", all, want)
	}
	m, ok := r.Peek()
	if ok != (len(want) > 0) || ok && !slices.Equal(m, want[0]) || !ok && m != nil {
		t.Errorf("Peek() = %v, %v, want the first of %v", m, ok, want)
	}
}

// P3.1: each pair of numbers at and beyond the ends of what may be.
func TestNew(t *testing.T) {
	numbers := []int{math.MinInt, -33, -32, -1, 0, 1, 2, 17, 31, 32, 33, 34, 64, 1 << 32, 1<<32 + 1, math.MaxInt}
	for _, room := range numbers {
		for _, words := range numbers {
			r, e := ring.New(room, words)
			if room < 1 || room > 32 || words < 1 || words > 32 {
				if r != nil || e != api.ErrArg {
					t.Errorf("New(%d, %d) = %v, %d, want nil and ErrArg", room, words, r, e)
				}
				continue
			}
			if r == nil || e != api.OK {
				t.Errorf("New(%d, %d) = %v, %d", room, words, r, e)
				continue
			}
			if r.Room() != room || r.Words() != words {
				t.Errorf("of New(%d, %d) the room is %d, and words %d", room, words, r.Room(), r.Words())
			}
			holds(t, r)
		}
	}
}

// P3.1: two calls give two Rings.
func TestNewIsItsOwn(t *testing.T) {
	a, b := must(t, 3, 3), must(t, 3, 3)
	a.Put([]uint32{1})
	holds(t, a, []uint32{1})
	holds(t, b)
}

// The chapter's example.
func TestExample(t *testing.T) {
	r := must(t, 1, 2)
	if e := r.Put([]uint32{1, 2, 3}); e != api.ErrRange {
		t.Error(e)
	}
	if e := r.Put([]uint32{4, 5}); e != api.OK {
		t.Error(e)
	}
	if e := r.Put([]uint32{6}); e != api.ErrFull {
		t.Error(e)
	}
	if m, ok := r.Take(); !ok || !slices.Equal(m, []uint32{4, 5}) {
		t.Error(m, ok)
	}
	if m, ok := r.Take(); ok || m != nil {
		t.Error(m, ok)
	}
}

// P3.2: messages that are empty, as long as they may be, and longer.
func TestLengths(t *testing.T) {
	for words := 1; words <= 32; words++ {
		for n := 0; n <= 70; n++ {
			r := must(t, 2, words)
			m := long(n, 0xFEDCBA98)
			e := r.Put(m)
			if n > words {
				if e != api.ErrRange {
					t.Errorf("%d words where %d may be: %d", n, words, e)
				}
				holds(t, r)
				continue
			}
			if e != api.OK {
				t.Errorf("%d words where %d may be: %d", n, words, e)
			}
			holds(t, r, m)
			if got, ok := r.Take(); !ok || !slices.Equal(got, m) {
				t.Errorf("Take() = %v, %v, want %v", got, ok, m)
			}
			holds(t, r)
		}
	}
}

// P3.2: a nil message is an empty one, and an empty one is a message.
func TestEmptyMessages(t *testing.T) {
	r := must(t, 2, 1)
	for _, m := range [][]uint32{nil, {}} {
		if e := r.Put(m); e != api.OK {
			t.Error(e)
		}
	}
	holds(t, r, nil, nil)
	if e := r.Put(nil); e != api.ErrFull {
		t.Error(e)
	}
	for range 2 {
		if m, ok := r.Take(); !ok || len(m) != 0 {
			t.Error(m, ok)
		}
	}
	if m, ok := r.Take(); ok || m != nil {
		t.Error(m, ok)
	}
}

// P3.2: a Ring of any room takes just so many messages; after an error it is as it was, and
// a message that is too long counts as that even if there is no room.
func TestFull(t *testing.T) {
	for room := 1; room <= 32; room++ {
		r := must(t, room, 2)
		var want [][]uint32
		for i := range room {
			m := []uint32{uint32(i), math.MaxUint32}
			if e := r.Put(m); e != api.OK {
				t.Fatalf("message %d of %d: %d", i, room, e)
			}
			want = append(want, m)
		}
		for range 3 {
			if e := r.Put([]uint32{77}); e != api.ErrFull {
				t.Errorf("room %d: %d, want ErrFull", room, e)
			}
			if e := r.Put([]uint32{7, 8, 9}); e != api.ErrRange {
				t.Errorf("room %d: %d, want ErrRange", room, e)
			}
			holds(t, r, want...)
		}
		r.Take()
		if e := r.Put([]uint32{7, 8, 9}); e != api.ErrRange {
			t.Errorf("room %d: %d, want ErrRange", room, e)
		}
		holds(t, r, want[1:]...)
	}
}

// P3.2: each room, with each number of messages, over and over.
func TestSlotsThatAreUsedAgain(t *testing.T) {
	for room := 1; room <= 32; room++ {
		r := must(t, room, 1)
		next, first := uint32(0), uint32(0)
		for n := 1; n <= room; n++ {
			for range 40 {
				for range n {
					if e := r.Put([]uint32{next}); e != api.OK {
						t.Fatalf("room %d, message %d: %d", room, next, e)
					}
					next++
				}
				for range n {
					if m, ok := r.Take(); !ok || !slices.Equal(m, []uint32{first}) {
						t.Fatalf("room %d: Take() = %v, %v, want %d", room, m, ok, first)
					}
					first++
				}
				if m, ok := r.Take(); ok || m != nil || r.Len() != 0 {
					t.Fatalf("room %d: Take() = %v, %v of an empty Ring", room, m, ok)
				}
			}
		}
	}
}

// P3.2: any calls in any order, against a plain list.
func TestAgainstAList(t *testing.T) {
	dice := rand.New(rand.NewSource(3))
	for range 300 {
		room, words := 1+dice.Intn(5), 1+dice.Intn(4)
		r := must(t, room, words)
		var want [][]uint32
		for range 200 {
			switch dice.Intn(12) {
			case 0, 1, 2, 3, 4, 5:
				m := long(dice.Intn(words+2), dice.Uint32())
				e := api.OK
				if len(m) > words {
					e = api.ErrRange
				} else if len(want) == room {
					e = api.ErrFull
				} else {
					want = append(want, m)
				}
				if got := r.Put(m); got != e {
					t.Fatalf("Put(%v) = %d, want %d", m, got, e)
				}
			case 6, 7, 8, 9:
				m, ok := r.Take()
				if ok != (len(want) > 0) || ok && !slices.Equal(m, want[0]) || !ok && m != nil {
					t.Fatalf("Take() = %v, %v, want the first of %v", m, ok, want)
				}
				if ok {
					want = want[1:]
				}
			case 10:
				r = r.Clone()
			case 11:
				if dice.Intn(5) == 0 {
					r.Clear()
					want = nil
				}
			}
			holds(t, r, want...)
			if t.Failed() {
				t.FailNow()
			}
		}
		if r.Room() != room || r.Words() != words {
			t.Error(r.Room(), r.Words())
		}
	}
}

// turned returns a Ring with these messages, of which the first one lies in slot by.
func turned(t *testing.T, room, words, by int, l ...[]uint32) *ring.Ring {
	t.Helper()
	r := must(t, room, words)
	for range by {
		r.Put([]uint32{999})
		r.Take()
	}
	for _, m := range l {
		if e := r.Put(m); e != api.OK {
			t.Fatal(e)
		}
	}
	return r
}

// P3.2: Clear, of an empty Ring, of a full one, and from each slot.
func TestClear(t *testing.T) {
	for by := range 7 {
		for n := range 4 {
			r := turned(t, 3, 2, by, slices.Repeat([][]uint32{{1, 2}}, n)...)
			r.Clear()
			holds(t, r)
			if r.Room() != 3 || r.Words() != 2 || !r.Same(must(t, 3, 2)) {
				t.Error("after Clear:", r.Room(), r.Words())
			}
			if m, ok := r.Take(); ok || m != nil {
				t.Error(m, ok)
			}
			for i := range uint32(3) {
				if e := r.Put([]uint32{i}); e != api.OK {
					t.Error(e)
				}
			}
			if e := r.Put(nil); e != api.ErrFull {
				t.Error(e)
			}
			holds(t, r, []uint32{0}, []uint32{1}, []uint32{2})
		}
	}
}

// P3.3: what a Ring and its clone become is up to each of them.
func TestClone(t *testing.T) {
	for by := range 7 {
		r := turned(t, 3, 2, by, []uint32{1}, []uint32{2, 3}, nil)
		c := r.Clone()
		if c == r || !c.Same(r) || !r.Same(c) || c.Room() != 3 || c.Words() != 2 {
			t.Fatal("a clone is another one")
		}
		holds(t, c, []uint32{1}, []uint32{2, 3}, nil)
		c.Take()
		c.Put([]uint32{4})
		holds(t, c, []uint32{2, 3}, nil, []uint32{4})
		holds(t, r, []uint32{1}, []uint32{2, 3}, nil)
		r.Take()
		r.Take()
		r.Put([]uint32{5})
		holds(t, c, []uint32{2, 3}, nil, []uint32{4})
		holds(t, r, nil, []uint32{5})
		r.Clear()
		holds(t, c, []uint32{2, 3}, nil, []uint32{4})
		c.Clear()
		r.Put([]uint32{6})
		holds(t, c)
		holds(t, r, []uint32{6})
	}
	if c := must(t, 32, 1).Clone(); c.Len() != 0 || c.Room() != 32 || c.Words() != 1 {
		t.Error("the clone of an empty Ring:", c.Len(), c.Room(), c.Words())
	}
}

// P3.3: Same looks at room, words and messages, and at nothing else.
func TestSame(t *testing.T) {
	type shape struct {
		room, words int
		l           [][]uint32
	}
	var shapes []shape
	for _, room := range []int{2, 3} {
		for _, words := range []int{2, 3} {
			for _, l := range [][][]uint32{nil, {nil}, {{0}}, {{1}}, {{1, 2}}, {{2, 1}}, {{1}, nil}, {nil, {1}}, {{1}, {2}}, {{2}, {1}}, {{1}, {1, 2}}} {
				shapes = append(shapes, shape{room, words, l})
			}
		}
	}
	for i, x := range shapes {
		for j, y := range shapes {
			for by := range 3 {
				a, b := turned(t, x.room, x.words, 0, x.l...), turned(t, y.room, y.words, by, y.l...)
				if a.Same(b) != (i == j) || b.Same(a) != (i == j) {
					t.Errorf("Same of %v and %v, turned by %d: %v, %v", x, y, by, a.Same(b), b.Same(a))
				}
			}
		}
	}
	r := must(t, 2, 2)
	if !r.Same(r) {
		t.Error("a Ring is not equal to itself")
	}
}

// P3.3: asking changes nothing.
func TestAskingChangesNothing(t *testing.T) {
	r := turned(t, 4, 2, 3, []uint32{1}, []uint32{2, 3})
	for range 2 {
		r.Peek()
		r.All()
		r.Len()
		r.Room()
		r.Words()
		r.Clone()
		r.Same(r.Clone())
		holds(t, r, []uint32{1}, []uint32{2, 3})
	}
}

// P3.4: a message that is changed outside after it was put.
func TestArgumentsAreNotRetained(t *testing.T) {
	r := must(t, 2, 3)
	whole := []uint32{1, 2, 3, 4, 5}
	r.Put(whole[:3])
	r.Put(whole[3:])
	c := r.Clone()
	clear(whole)
	for _, x := range []*ring.Ring{r, c} {
		holds(t, x, []uint32{1, 2, 3}, []uint32{4, 5})
	}
	m := make([]uint32, 2, 8)
	r.Clear()
	r.Put(m)
	r.Put(m[:1])
	if spare := m[:8]; !slices.Equal(spare, make([]uint32, 8)) {
		t.Error("an argument was changed:", spare)
	}
}

// spoil writes over all that a message has memory for.
func spoil(m []uint32) {
	m = m[:cap(m)]
	for i := range m {
		m[i] = 0xBAD
	}
}

// P3.4: a message or a list that is changed outside after it was told or taken.
func TestResultsAreTheirOwn(t *testing.T) {
	want := [][]uint32{{1, 2}, {3}, nil, {4, 5}}
	r := turned(t, 4, 2, 3, want...)
	c := r.Clone()
	check := func(what string) {
		t.Helper()
		for _, x := range []*ring.Ring{r, c} {
			holds(t, x, want...)
		}
		if t.Failed() {
			t.Fatal("after the change of what was told by", what)
		}
	}
	for range want {
		all := r.All()
		for i := range all {
			before := r.All()
			spoil(all[i])
			_ = append(all[i], 0xBAD)
			if !slices.EqualFunc(all[i+1:], before[i+1:], slices.Equal) {
				t.Error("the messages of a list share memory")
			}
		}
		clear(all[:cap(all)])
		check("All")
		m, _ := r.Peek()
		spoil(m)
		check("Peek")
		m, _ = r.Take()
		if !slices.Equal(m, want[0]) {
			t.Error("Take:", m)
		}
		spoil(m)
		if m, _ := c.Take(); !slices.Equal(m, want[0]) {
			t.Error("Take of the clone:", m)
		}
		want = want[1:]
		check("Take")
	}
}

// P3.4: a message that was taken stays as it is when its slot is used again.
func TestTakenMessagesStay(t *testing.T) {
	r := must(t, 1, 3)
	r.Put([]uint32{1, 2, 3})
	peeked, _ := r.Peek()
	all := r.All()
	taken, _ := r.Take()
	r.Put([]uint32{7, 8, 9})
	r.Take()
	r.Put([]uint32{7, 8, 9})
	r.Clear()
	for _, m := range [][]uint32{peeked, all[0], taken} {
		if !slices.Equal(m, []uint32{1, 2, 3}) {
			t.Error("a message outside has changed:", m)
		}
	}
}

// P3.3 and P3.4: a nil Ring.
func TestNilRing(t *testing.T) {
	var r *ring.Ring
	for n := range 40 {
		if e := r.Put(long(n, 1)); e != api.ErrArg {
			t.Error("Put:", e)
		}
	}
	if m, ok := r.Take(); ok || m != nil {
		t.Error("Take:", m, ok)
	}
	if m, ok := r.Peek(); ok || m != nil {
		t.Error("Peek:", m, ok)
	}
	if r.Len() != 0 || r.Room() != 0 || r.Words() != 0 || len(r.All()) != 0 || r.Clone() != nil {
		t.Error(r.Len(), r.Room(), r.Words(), r.All(), r.Clone())
	}
	r.Clear()
	full := turned(t, 1, 1, 0, []uint32{1})
	for _, x := range []*ring.Ring{must(t, 1, 1), full} {
		if r.Same(x) || x.Same(r) || x.Same(nil) {
			t.Error("a Ring is the same as none")
		}
	}
	if !r.Same(nil) || !r.Same(r) {
		t.Error("no Ring is not the same as none")
	}
}
