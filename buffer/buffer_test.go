package buffer_test

import (
	"math"
	"slices"
	"testing"

	"monocoque/api"
	"monocoque/buffer"
)

// The chapter's example.
func TestExample(t *testing.T) {
	both(func(byPriority bool) {
		b := of(t, 2, 1, byPriority)
		enters(t, b, 1, []uint32{7})
		stays(t, b, 2, 5, 8)
		stays(t, b, 3, 9, 9)
		if byPriority {
			gets(t, b, 4, 3, 7)
		} else {
			gets(t, b, 4, 2, 7)
		}
	})
}

// P24.1: each pair of numbers at and beyond the ends of what may be.
func TestNew(t *testing.T) {
	numbers := []int{math.MinInt, -32, -1, 0, 1, 2, 31, 32, 33, 64, 1 << 32, 1<<32 + 1, math.MaxInt}
	may := func(n int) bool { return n >= 1 && n <= 32 }
	for _, words := range numbers {
		for _, room := range numbers {
			both(func(byPriority bool) {
				b, e := buffer.New(words, room, byPriority)
				if !may(words) || !may(room) {
					if b != nil || e != api.ErrRange {
						t.Errorf("New(%d, %d, %v) = %v, %d, want ErrRange", words, room, byPriority, b, e)
					}
					return
				}
				if b == nil || e != api.OK {
					t.Fatalf("New(%d, %d, %v) = %v, %d", words, room, byPriority, b, e)
				}
				holds(t, b)
				line(t, b, false)
			})
		}
	}
}

// P24.1: two calls make two buffers.
func TestNewIsItsOwn(t *testing.T) {
	a, b := of(t, 2, 2, true), of(t, 2, 2, true)
	enters(t, a, 1, []uint32{3})
	asks(t, b, 2, 5)
	holds(t, a, []uint32{3})
	line(t, a, false)
	holds(t, b)
	line(t, b, false, 2)
}

// P24.1 and P24.2: a message may have so many words and no more, and there is room for so many messages and no more.
func TestBounds(t *testing.T) {
	for words := 1; words <= 32; words++ {
		for _, room := range []int{1, 2, 3, 31, 32} {
			b := of(t, words, room, room%2 == 0)
			var want [][]uint32
			for i := range room {
				m := slices.Repeat([]uint32{uint32(i)}, i%(words+1))
				if i == room-1 {
					m = slices.Repeat([]uint32{math.MaxUint32}, words)
				}
				enters(t, b, i, m)
				want = append(want, m)
				holds(t, b, want...)
				line(t, b, false)
			}
			long := make([]uint32, words+1)
			refuses(t, b, api.ErrRange, 99, 5, long, make([]uint32, words+32), make([]uint32, 1<<16))
			stays(t, b, 99, 5, long[1:]...)
			holds(t, b, want...)
			line(t, b, true, 99)
			refuses(t, of(t, words, room, true), api.ErrRange, 0, 5, long)
		}
	}
}

// P24.2: a message may be empty, nil or not; it is one all the same.
func TestEmptyMessage(t *testing.T) {
	for _, m := range [][]uint32{nil, {}} {
		b := of(t, 1, 2, false)
		enters(t, b, 1, m, m)
		holds(t, b, nil, nil)
		stays(t, b, 2, 5, m...)
		line(t, b, true, 2)
		gets(t, b, 3, 2)
		gets(t, b, 3, nobody)
		gets(t, b, 3, nobody)
		asks(t, b, 3, 5)
		reaches(t, b, 1, 3, m...)
		holds(t, b)
	}
}

// P24.2 and P24.3: a message goes to the receiver that waits, and does not enter.
func TestReceiversFirst(t *testing.T) {
	both(func(byPriority bool) {
		b := of(t, 2, 3, byPriority)
		asks(t, b, 7, 2)
		asks(t, b, 8, 2)
		asks(t, b, 9, 2)
		line(t, b, false, 7, 8, 9)
		reaches(t, b, 1, 7, 10, 11)
		holds(t, b)
		line(t, b, false, 8, 9)
		reaches(t, b, 1, 8, 12)
		reaches(t, b, 7, 9)
		line(t, b, false)
		enters(t, b, 1, []uint32{13})
		holds(t, b, []uint32{13})
		gets(t, b, 9, nobody, 13)
		asks(t, b, 9, 2)
	})
}

// P24.3: each message that is received makes room for one of a sender that waits, which enters behind the others.
func TestSendersEnter(t *testing.T) {
	both(func(byPriority bool) {
		b := of(t, 2, 3, byPriority)
		enters(t, b, 1, []uint32{10}, []uint32{11, 0}, []uint32{12})
		stays(t, b, 2, 5, 13)
		stays(t, b, 1, 5, 14)
		stays(t, b, 0, 5, 15)
		line(t, b, true, 2, 1, 0)
		gets(t, b, 4, 2, 10)
		holds(t, b, []uint32{11, 0}, []uint32{12}, []uint32{13})
		line(t, b, true, 1, 0)
		gets(t, b, 2, 1, 11, 0)
		holds(t, b, []uint32{12}, []uint32{13}, []uint32{14})
		gets(t, b, 1, 0, 12)
		line(t, b, false)
		gets(t, b, 1, nobody, 13)
		holds(t, b, []uint32{14}, []uint32{15})
		enters(t, b, 1, []uint32{16})
		stays(t, b, 1, 5, 17)
		gets(t, b, 0, 1, 14)
		gets(t, b, 0, nobody, 15)
		gets(t, b, 0, nobody, 16)
		gets(t, b, 0, nobody, 17)
		asks(t, b, 0, 5)
	})
}

// P24.2 and P24.3: an id is not negative, whatever else there is.
func TestWrongIds(t *testing.T) {
	both(func(byPriority bool) {
		waits, sends := of(t, 2, 1, byPriority), full(t, 2, 1, byPriority)
		asks(t, waits, 0, 5)
		stays(t, sends, 0, 5, 2)
		for _, b := range []*buffer.Buffer{of(t, 2, 1, byPriority), full(t, 2, 2, byPriority), waits, sends} {
			for _, id := range wrongIds {
				refuses(t, b, api.ErrRange, id, 5, nil, []uint32{1}, []uint32{1, 2, 3})
				refuses(t, b, api.ErrRange, id, 5)
			}
		}
	})
}

// P24.2 and P24.3: an id that waits neither sends nor receives; once it waits no longer it does.
func TestWaitsAlready(t *testing.T) {
	both(func(byPriority bool) {
		for id := range 3 {
			receivers, senders := of(t, 2, 1, byPriority), full(t, 2, 1, byPriority)
			for k := range 3 {
				asks(t, receivers, k, 5)
				stays(t, senders, k, 5, 2)
			}
			for _, b := range []*buffer.Buffer{receivers, senders} {
				for _, priority := range append(farPriorities, 4, 5, 6) {
					refuses(t, b, api.ErrState, id, priority, nil, []uint32{1}, []uint32{1, 2})
					refuses(t, b, api.ErrState, id, priority)
					refuses(t, b, api.ErrRange, id, priority, []uint32{1, 2, 3}) // it is listed first
				}
			}
			line(t, receivers, false, 0, 1, 2)
			line(t, senders, true, 0, 1, 2)
			receivers.Drop(id)
			senders.Drop(id)
			asks(t, receivers, id, 5)
			stays(t, senders, id, 5, 2)
		}
		b := of(t, 1, 1, byPriority)
		asks(t, b, 1, 5)
		reaches(t, b, 2, 1, 4)
		enters(t, b, 1, []uint32{5})
		stays(t, b, 1, 5, 6)
		gets(t, b, 2, 1, 5)
		gets(t, b, 1, nobody, 6)
	})
}

// The terms: both orders, of senders and of receivers, whichever priorities they have and in whichever order they come.
func TestOrders(t *testing.T) {
	for _, x := range []struct{ priorities, want []int }{
		{[]int{3}, []int{0}},
		{[]int{3, 3, 3, 3}, []int{0, 1, 2, 3}},
		{[]int{1, 2, 3, 4}, []int{3, 2, 1, 0}},
		{[]int{4, 3, 2, 1}, []int{0, 1, 2, 3}},
		{[]int{2, 1, 2, 3, 1, 3, 2}, []int{3, 5, 0, 2, 6, 1, 4}},
		{[]int{0, -1, 1, 0, -1}, []int{2, 0, 3, 1, 4}},
		{[]int{math.MinInt, math.MaxInt, 0, math.MinInt, math.MaxInt}, []int{1, 4, 2, 0, 3}},
		{[]int{1 << 32, 1, 1<<32 + 1, 0}, []int{2, 0, 1, 3}},
	} {
		both(func(byPriority bool) {
			want := x.want
			if !byPriority {
				want = []int{0, 1, 2, 3, 4, 5, 6}[:len(x.priorities)]
			}
			r, s := of(t, 1, 2, byPriority), full(t, 1, 2, byPriority)
			for id, priority := range x.priorities {
				asks(t, r, id, priority)
				stays(t, s, id, priority, uint32(100+id))
			}
			line(t, r, false, want...)
			line(t, s, true, want...)
			for i, id := range want {
				reaches(t, r, 50, id, uint32(i))
				line(t, r, false, want[i+1:]...)
				d, e := s.Receive(50, 5)
				if e != api.OK || !d.Now || d.Woken != id || s.All()[1][0] != uint32(100+id) {
					t.Errorf("Receive(50, 5) = %v, %d, %v, want %d", d, e, s.All(), id)
				}
				line(t, s, true, want[i+1:]...)
			}
		})
	}
}

// P24.2 and P24.3: every number that is not negative may be an id, and every number a priority.
func TestFarNumbers(t *testing.T) {
	r, s := of(t, 1, 1, false), full(t, 1, 1, false)
	for i, id := range farIds {
		asks(t, r, id, farPriorities[i])
		stays(t, s, id, farPriorities[i], uint32(i))
	}
	line(t, r, false, farIds...)
	line(t, s, true, farIds...)
	gets(t, s, 7, farIds[0], 1)
	for i, id := range farIds {
		reaches(t, r, 7, id, 3)
		if i+1 < len(farIds) {
			gets(t, s, id, farIds[i+1], uint32(i))
		} else {
			gets(t, s, id, nobody, uint32(i))
		}
	}
	p, want := of(t, 1, 1, true), []int{}
	for i, priority := range farPriorities {
		asks(t, p, i, priority)
		want = append([]int{i}, want...)
	}
	line(t, p, false, want...)
}

// P24.4: each place may be dropped, of receivers and of senders, and nothing else changes.
func TestDrop(t *testing.T) {
	both(func(byPriority bool) {
		for id := range 5 {
			r, s := of(t, 2, 2, byPriority), full(t, 2, 2, byPriority)
			want := []int{0, 1, 2, 3, 4}
			for _, k := range want {
				asks(t, r, k, 5)
				stays(t, s, k, 5, uint32(20+k))
			}
			want = slices.Delete(want, id, id+1)
			if !r.Drop(id) || !s.Drop(id) {
				t.Errorf("Drop(%d) = false", id)
			}
			for _, k := range append(wrongIds, id, 5, math.MaxInt) {
				if r.Drop(k) || s.Drop(k) {
					t.Errorf("Drop(%d) = true", k)
				}
			}
			line(t, r, false, want...)
			line(t, s, true, want...)
			holds(t, r)
			holds(t, s, []uint32{1}, []uint32{1})
			for _, k := range want {
				reaches(t, r, 9, k, 3)
				if d, e := s.Receive(9, 5); e != api.OK || d.Woken != k || s.All()[1][0] != uint32(20+k) {
					t.Errorf("Receive(9, 5) = %v, %d, %v", d, e, s.All())
				}
			}
			line(t, r, false)
			line(t, s, false)
		}
	})
}

// P24.4: where nobody waits any more, or an id only sent or received, there is nobody to be dropped.
func TestDropNobody(t *testing.T) {
	both(func(byPriority bool) {
		half := of(t, 1, 2, byPriority)
		enters(t, half, 0, []uint32{1})
		once := of(t, 1, 2, byPriority)
		asks(t, once, 1, 5)
		reaches(t, once, 0, 1, 4)
		for _, b := range []*buffer.Buffer{of(t, 1, 1, byPriority), full(t, 1, 2, byPriority), half, once} {
			want := b.Clone()
			for _, id := range append(wrongIds, farIds...) {
				if b.Drop(id) || !b.Same(want) {
					t.Errorf("Drop(%d)", id)
				}
			}
		}
		b := of(t, 1, 1, byPriority)
		asks(t, b, 1, 5)
		b.Drop(1)
		line(t, b, false)
		enters(t, b, 2, []uint32{1})
		stays(t, b, 2, 5, 2)
		b.Drop(2)
		line(t, b, false)
		gets(t, b, 2, nobody, 1)
		asks(t, b, 2, 5)
	})
}

// P24.4: what a buffer and its clone become is up to each of them.
func TestClone(t *testing.T) {
	both(func(byPriority bool) {
		b := full(t, 2, 2, byPriority)
		for id := range 5 {
			stays(t, b, id, 5, uint32(20+id))
		}
		b.Drop(4) // leaves memory behind the others
		c := b.Clone()
		if c == b || !c.Same(b) || !b.Same(c) {
			t.Fatal("a clone is not the same")
		}
		stays(t, c, 8, 5, 28, 29)
		stays(t, b, 9, 5, 30)
		line(t, c, true, 0, 1, 2, 3, 8)
		line(t, b, true, 0, 1, 2, 3, 9)
		gets(t, c, 6, 0, 1)
		gets(t, c, 6, 1, 1)
		c.Drop(2)
		holds(t, c, []uint32{20}, []uint32{21})
		line(t, c, true, 3, 8)
		holds(t, b, []uint32{1}, []uint32{1})
		line(t, b, true, 0, 1, 2, 3, 9)
		gets(t, b, 6, 0, 1)
		holds(t, b, []uint32{1}, []uint32{20})
		holds(t, c, []uint32{20}, []uint32{21})
		refuses(t, c, api.ErrRange, 7, 5, []uint32{1, 2, 3}) // words, room and the order are cloned as well
		stays(t, c, 7, 6, 31)
		if byPriority {
			line(t, c, true, 7, 3, 8)
		} else {
			line(t, c, true, 3, 8, 7)
		}
		r := of(t, 1, 1, byPriority)
		asks(t, r, 1, 5)
		d := r.Clone()
		reaches(t, r, 2, 1, 4)
		line(t, d, false, 1)
		asks(t, d, 2, 5)
		line(t, r, false)
		line(t, d, false, 1, 2)
	})
}

// P24.4: the messages of a clone share no memory with those of the buffer, nor do those of senders that wait.
func TestCloneSharesNothing(t *testing.T) {
	b := full(t, 2, 2, false)
	stays(t, b, 3, 5, 8, 9)
	c := b.Clone()
	for _, wake := range []int{3, nobody} {
		d, e := b.Receive(4, 5)
		if e != api.OK || d.Woken != wake {
			t.Fatal(d, e)
		}
		spoil(d.M)
	}
	d, _ := b.Receive(4, 5)
	if !slices.Equal(d.M, []uint32{8, 9}) {
		t.Error(d)
	}
	spoil(d.M)
	gets(t, c, 4, 3, 1)
	gets(t, c, 4, nobody, 1)
	gets(t, c, 4, nobody, 8, 9)
}

// P24.4 and R4: messages that were passed and lists that were returned are the caller's.
func TestListsAreTheCallers(t *testing.T) {
	b := of(t, 2, 2, false)
	asks(t, b, 1, 5)
	m := []uint32{5, 6}
	d, _ := b.Send(2, 5, m)
	spoil(d.M)
	if !slices.Equal(m, []uint32{5, 6}) {
		t.Error("what a receiver gets is what was passed")
	}
	for i, stay := range []bool{false, false, true, true} {
		m := []uint32{5, uint32(i)}
		if stay {
			stays(t, b, i, 5, m...)
		} else {
			enters(t, b, i, m)
		}
		if !slices.Equal(m, []uint32{5, uint32(i)}) {
			t.Error("what was passed changes")
		}
		spoil(m)
	}
	want := b.Clone()
	all, again := b.All(), b.All()
	for _, l := range all {
		spoil(l)
	}
	spoil(all)
	ids, _ := b.Waiting()
	spoil(ids)
	if !b.Same(want) {
		t.Error("All or Waiting shares")
	}
	ids, _ = b.Waiting()
	gets(t, b, 9, 2, 5, 0)
	gets(t, b, 9, 3, 5, 1)
	gets(t, b, 9, nobody, 5, 2)
	if !slices.EqualFunc(again, [][]uint32{{5, 0}, {5, 1}}, slices.Equal[[]uint32]) || !slices.Equal(ids, []int{2, 3}) {
		t.Error("a list changes:", again, ids)
	}
}

// P24.4: a message that grows in the hands of the caller does not reach into others.
func TestMessagesDoNotOverlap(t *testing.T) {
	b := of(t, 4, 2, false)
	long := []uint32{1, 2, 3, 4}
	enters(t, b, 1, long[:1], long[1:2])
	stays(t, b, 2, 5, long[2:3]...)
	_ = append(long[:0], 9, 9, 9, 9)
	for i, all := range [][][]uint32{b.All(), b.Clone().All()} {
		_ = append(all[0], 7, 7, 7)
		if !slices.Equal(all[1], []uint32{2}) {
			t.Error(i, all)
		}
	}
	gets(t, b, 3, 2, 1)
	gets(t, b, 3, nobody, 2)
	gets(t, b, 3, nobody, 3)
}

// P24.4: no buffer.
func TestNil(t *testing.T) {
	var b *buffer.Buffer
	for _, id := range append(wrongIds, farIds...) {
		for _, m := range [][]uint32{nil, {}, {1}, make([]uint32, 40)} {
			if d, e := b.Send(id, 5, m); e != api.ErrArg || !equal(d, buffer.Done{}) || d.M != nil {
				t.Errorf("Send(%d, 5, %v) = %v, %d", id, m, d, e)
			}
		}
		if d, e := b.Receive(id, 5); e != api.ErrArg || !equal(d, buffer.Done{}) || d.M != nil {
			t.Errorf("Receive(%d, 5) = %v, %d", id, d, e)
		}
		if b.Drop(id) {
			t.Errorf("Drop(%d) = true", id)
		}
	}
	holds(t, b)
	line(t, b, false)
	if b.All() != nil || b.Clone() != nil || !b.Same(nil) {
		t.Error("All, Clone or Same")
	}
	for _, x := range []*buffer.Buffer{of(t, 1, 1, false), full(t, 1, 1, true)} {
		if b.Same(x) || x.Same(b) || x.Same(nil) {
			t.Error("a nil buffer is not equal to another")
		}
	}
}
