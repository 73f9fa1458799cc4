package queuing_test

import (
	"math"
	"slices"
	"testing"

	"monocoque/api"
	"monocoque/queuing"
)

// The chapter's example.
func TestExample(t *testing.T) {
	q := of(t, 2, 1)
	pushes(t, q, []uint32{7})
	loses(t, q, []uint32{8})
	gets(t, q, true, 7)
	nothing(t, q, false)
}

// P27.1: each pair of numbers at and beyond the ends of what may be.
func TestNew(t *testing.T) {
	numbers := []int{math.MinInt, -32, -1, 0, 1, 2, 31, 32, 33, 64, 1 << 32, 1<<32 + 1, math.MaxInt}
	may := func(n int) bool { return n >= 1 && n <= 32 }
	for _, words := range numbers {
		for _, room := range numbers {
			q, e := queuing.New(words, room)
			if !may(words) || !may(room) {
				if q != nil || e != api.ErrRange {
					t.Errorf("New(%d, %d) = %v, %d, want ErrRange", words, room, q, e)
				}
				continue
			}
			if q == nil || e != api.OK {
				t.Fatalf("New(%d, %d) = %v, %d", words, room, q, e)
			}
			holds(t, q, room)
			nothing(t, q, false)
			drains(t, q)
		}
	}
}

// P27.1: two calls make two queues.
func TestNewIsItsOwn(t *testing.T) {
	a, b := of(t, 2, 1), of(t, 2, 1)
	sends(t, a, []uint32{3})
	holds(t, b, 1)
	loses(t, a, []uint32{4})
	nothing(t, b, false)
	gets(t, a, true, 3)
}

// P27.1 and P27.2: a message may have so many words and no more, and there is room for so many messages and no more,
// whichever way they come.
func TestBounds(t *testing.T) {
	for words := 1; words <= 32; words++ {
		for _, room := range []int{1, 2, 3, 31, 32} {
			sent, pushed, put := of(t, words, room), of(t, words, room), of(t, words, room)
			var want [][]uint32
			for i := range room {
				m := slices.Repeat([]uint32{math.MaxUint32 - uint32(i)}, words-i%(words+1))
				refuseLong(t, words+1, sent, pushed, put)
				sends(t, sent, m)
				pushes(t, pushed, m)
				puts(t, put, m)
				want = append(want, m)
				holds(t, sent, room-len(want), want...)
				holds(t, pushed, room-len(want), want...)
				puts(t, put, put.Drain()...)
				holds(t, put, room-len(want), mirrored(want)...)
			}
			refuseLong(t, words+1, sent, pushed, put)
			for _, m := range [][]uint32{nil, {}, {5}, slices.Repeat([]uint32{5}, words)} {
				refuses(t, sent, api.ErrFull, func() api.Errno { return sent.Send(m) })
				refuses(t, put, api.ErrFull, func() api.Errno { return put.Back([][]uint32{m}) })
				loses(t, pushed, m)
			}
			gets(t, sent, false, want[0]...)
			gets(t, put, false, want[room-1]...)
			gets(t, pushed, true, want[0]...)
			if room > 1 {
				gets(t, pushed, false, want[1]...)
			}
		}
	}
}

// refuseLong tells whether messages of too many words are refused, and lose nothing.
func refuseLong(t *testing.T, least int, queues ...*queuing.Queue) {
	t.Helper()
	for _, q := range queues {
		for _, n := range []int{least, least + 1, 33, 64, 1 << 12} {
			m := make([]uint32, n)
			refuses(t, q, api.ErrRange, func() api.Errno { return q.Send(m) })
			refuses(t, q, api.ErrRange, func() api.Errno { return q.Push(m) })
			refuses(t, q, api.ErrRange, func() api.Errno { return q.Back([][]uint32{m}) })
		}
	}
}

func mirrored(l [][]uint32) [][]uint32 {
	l = slices.Clone(l)
	slices.Reverse(l)
	return l
}

// P27.1: a message may be empty, nil or not; it is one all the same.
func TestEmptyMessage(t *testing.T) {
	for _, m := range [][]uint32{nil, {}} {
		q := of(t, 1, 3)
		sends(t, q, m)
		pushes(t, q, m)
		puts(t, q, m)
		holds(t, q, 0, nil, nil, nil)
		loses(t, q, m)
		gets(t, q, true)
		drains(t, q, nil, nil)
		nothing(t, q, false)
	}
}

// P27.1 and P27.2: messages that are sent and pushed come after the others, and are received in this order.
func TestOrder(t *testing.T) {
	q := of(t, 3, 5)
	sends(t, q, []uint32{1}, []uint32{2, 20})
	pushes(t, q, []uint32{3, 30, 300})
	sends(t, q, []uint32{4})
	holds(t, q, 1, []uint32{1}, []uint32{2, 20}, []uint32{3, 30, 300}, []uint32{4})
	gets(t, q, false, 1)
	gets(t, q, false, 2, 20)
	pushes(t, q, []uint32{5})
	sends(t, q, []uint32{6})
	holds(t, q, 1, []uint32{3, 30, 300}, []uint32{4}, []uint32{5}, []uint32{6})
	gets(t, q, false, 3, 30, 300)
	gets(t, q, false, 4)
	gets(t, q, false, 5)
	gets(t, q, false, 6)
	nothing(t, q, false)
	holds(t, q, 5)
}

// P27.1 and P27.2: only Push without room tells of a loss; the next Receive tells it once, with a message or without.
func TestLost(t *testing.T) {
	q := with(t, 1, []uint32{1})
	if e := q.Send([]uint32{2}); e != api.ErrFull {
		t.Error(e)
	}
	if e := q.Back(ones(2)); e != api.ErrFull {
		t.Error(e)
	}
	if e := q.Push(make([]uint32, 4)); e != api.ErrRange {
		t.Error(e)
	}
	gets(t, q, false, 1)
	nothing(t, q, false)
	pushes(t, q, []uint32{3})
	loses(t, q, []uint32{4}, []uint32{5})
	gets(t, q, true, 3)
	nothing(t, q, false)
	pushes(t, q, []uint32{6})
	loses(t, q, []uint32{7})
	drains(t, q, []uint32{6})
	nothing(t, q, true)
	nothing(t, q, false)
	sends(t, q, []uint32{8})
	loses(t, q, []uint32{9})
	drains(t, q, []uint32{8})
	sends(t, q, []uint32{10})
	gets(t, q, true, 10)
	sends(t, q, []uint32{11})
	gets(t, q, false, 11)
}

// P27.2: neither what looks, nor what adds, nor what drains clears the flag.
func TestLostStays(t *testing.T) {
	for _, call := range []func(q *queuing.Queue){
		func(q *queuing.Queue) { q.All() },
		func(q *queuing.Queue) { q.Free() },
		func(q *queuing.Queue) { q.Clone() },
		func(q *queuing.Queue) { q.Same(q) },
		func(q *queuing.Queue) { q.Same(nil) },
		func(q *queuing.Queue) { q.Send(nil) },
		func(q *queuing.Queue) { q.Push(nil) },
		func(q *queuing.Queue) { q.Push(make([]uint32, 9)) },
		func(q *queuing.Queue) { q.Drain() },
		func(q *queuing.Queue) { q.Drain(); q.Drain() },
		func(q *queuing.Queue) { q.Drain(); q.Send(nil); q.Push(nil) },
		func(q *queuing.Queue) { q.Back(nil) },
		func(q *queuing.Queue) { q.Back(q.Drain()) },
		func(q *queuing.Queue) { q.Back(ones(1)) },
		func(q *queuing.Queue) { *q = *q.Clone() },
	} {
		q := with(t, 1, []uint32{1})
		loses(t, q, []uint32{2})
		call(q)
		if _, _, lost := q.Receive(); !lost {
			t.Error("the loss is forgotten")
		}
		if _, _, lost := q.Receive(); lost {
			t.Error("the loss is told twice")
		}
	}
}

// P27.2: Drain removes all messages.
func TestDrain(t *testing.T) {
	q := with(t, 3, []uint32{1}, []uint32{2, 3}, nil)
	drains(t, q, []uint32{1}, []uint32{2, 3}, nil)
	holds(t, q, 3)
	drains(t, q)
	nothing(t, q, false)
	sends(t, q, ones(7, 8, 9)...)
	drains(t, q, ones(7, 8, 9)...)
}

// P27.2: messages come back before all others, in their order.
func TestBack(t *testing.T) {
	q := of(t, 3, 5)
	puts(t, q)
	puts(t, q, [][]uint32{}...)
	holds(t, q, 5)
	puts(t, q, []uint32{1}, []uint32{2, 20})
	holds(t, q, 3, []uint32{1}, []uint32{2, 20})
	puts(t, q, []uint32{3})
	holds(t, q, 2, []uint32{3}, []uint32{1}, []uint32{2, 20})
	puts(t, q)
	sends(t, q, []uint32{4})
	puts(t, q, []uint32{5, 6, 7})
	holds(t, q, 0, []uint32{5, 6, 7}, []uint32{3}, []uint32{1}, []uint32{2, 20}, []uint32{4})
	puts(t, q) // there is room for none of none
	gets(t, q, false, 5, 6, 7)
	gets(t, q, false, 3)
	puts(t, q, []uint32{8}, []uint32{9})
	holds(t, q, 0, []uint32{8}, []uint32{9}, []uint32{1}, []uint32{2, 20}, []uint32{4})
}

// P27.2: of messages that go back, all do or none; one with too many words is listed first, wherever it is.
func TestBackRefuses(t *testing.T) {
	long := make([]uint32, 4)
	for filled := range 5 {
		q := with(t, 4, ones(1, 2, 3, 4)[:filled]...)
		for n := range 8 {
			l := slices.Repeat(ones(7), n)
			if n > 4-filled {
				refuses(t, q, api.ErrFull, func() api.Errno { return q.Back(l) })
			} else {
				c := q.Clone()
				puts(t, c, l...)
				holds(t, c, 4-filled-n, append(slices.Clone(l), ones(1, 2, 3, 4)[:filled]...)...)
			}
			for at := range n {
				l := slices.Clone(l)
				l[at] = long
				refuses(t, q, api.ErrRange, func() api.Errno { return q.Back(l) })
			}
		}
		holds(t, q, 4-filled, ones(1, 2, 3, 4)[:filled]...)
	}
	q := with(t, 2, ones(1)...)
	many := slices.Repeat(ones(7), 1<<12)
	refuses(t, q, api.ErrFull, func() api.Errno { return q.Back(many) })
	many[len(many)-1] = long
	refuses(t, q, api.ErrRange, func() api.Errno { return q.Back(many) })
}

// P27.1: where there is no room, a message with too many words is neither lost nor told to be.
func TestLongIsListedFirst(t *testing.T) {
	q := with(t, 1, nil)
	long := make([]uint32, 4)
	refuses(t, q, api.ErrRange, func() api.Errno { return q.Send(long) })
	refuses(t, q, api.ErrRange, func() api.Errno { return q.Push(long) })
	refuses(t, q, api.ErrRange, func() api.Errno { return q.Back([][]uint32{long}) })
	gets(t, q, false)
}

// P27.2: Clear removes all messages and the flag.
func TestClear(t *testing.T) {
	q := with(t, 2, ones(1, 2)...)
	loses(t, q, []uint32{3})
	q.Clear()
	holds(t, q, 2)
	nothing(t, q, false)
	q.Clear()
	sends(t, q, ones(4, 5)...)
	holds(t, q, 0, ones(4, 5)...)
	q.Clear()
	drains(t, q)
	if !q.Same(of(t, 3, 2)) {
		t.Error("something is left")
	}
}

// P27.3: what a queue and its clone become is up to each of them.
func TestClone(t *testing.T) {
	q := with(t, 4, ones(1, 2, 3)...)
	gets(t, q, false, 1) // leaves memory behind the others
	c := q.Clone()
	if c == q || !c.Same(q) || !q.Same(c) {
		t.Fatal("a clone is not the same")
	}
	sends(t, c, []uint32{4})
	sends(t, q, []uint32{5})
	holds(t, c, 1, ones(2, 3, 4)...)
	holds(t, q, 1, ones(2, 3, 5)...)
	gets(t, c, false, 2)
	puts(t, q, []uint32{6})
	loses(t, q, []uint32{7})
	holds(t, c, 2, ones(3, 4)...)
	holds(t, q, 0, ones(6, 2, 3, 5)...)
	d := q.Clone()
	gets(t, q, true, 6)
	gets(t, d, true, 6)
	gets(t, c, false, 3)
	d.Clear()
	holds(t, q, 1, ones(2, 3, 5)...)
	q.Drain()
	holds(t, c, 3, ones(4)...)
	refuses(t, d, api.ErrRange, func() api.Errno { return d.Send(make([]uint32, 4)) }) // words and room are cloned
	sends(t, d, ones(1, 2, 3, 4)...)
	refuses(t, d, api.ErrFull, func() api.Errno { return d.Send(nil) })
}

// P27.3: Same looks at words, room, messages and the flag.
func TestSame(t *testing.T) {
	lost := func(q *queuing.Queue, messages int) *queuing.Queue {
		for q.Free() > 0 {
			q.Push(nil)
		}
		q.Push(nil)
		l := q.Drain()
		q.Back(l[:messages])
		return q
	}
	all := func() []*queuing.Queue {
		return []*queuing.Queue{
			of(t, 1, 1), of(t, 1, 2), of(t, 2, 1), of(t, 2, 2), of(t, 32, 32),
			lost(of(t, 1, 1), 0), lost(of(t, 1, 2), 0), lost(of(t, 2, 1), 0), lost(of(t, 2, 1), 1), lost(of(t, 3, 2), 1), lost(of(t, 3, 2), 2),
			with(t, 2), with(t, 2, nil), with(t, 2, nil, nil), with(t, 2, []uint32{0}), with(t, 2, []uint32{0, 0}),
			with(t, 2, []uint32{1}), with(t, 2, []uint32{1, 0}), with(t, 2, []uint32{0, 1}), with(t, 2, []uint32{0}, []uint32{1}),
			with(t, 2, []uint32{1}, []uint32{0}), with(t, 2, []uint32{1}, nil), with(t, 2, nil, []uint32{1}), with(t, 3, nil, nil),
		}
	}
	for i, a := range all() {
		for j, b := range all() {
			if a.Same(b) != (i == j) {
				t.Errorf("Same of %d and %d: %v", i, j, a.Same(b))
			}
		}
	}
}

// P27.3: how a queue came to be what it is makes no difference.
func TestSameWhateverWasBefore(t *testing.T) {
	x := with(t, 3, ones(5, 6, 7)...)
	x.Drain()
	if !x.Same(of(t, 3, 3)) || !of(t, 3, 3).Same(x) {
		t.Error("it is empty")
	}
	pushes(t, x, ones(8, 2, 3)...)
	gets(t, x, false, 8)
	puts(t, x, []uint32{1})
	if !x.Same(with(t, 3, ones(1, 2, 3)...)) || !x.Same(x) {
		t.Error("it contains the same messages")
	}
	loses(t, x, nil)
	if x.Same(with(t, 3, ones(1, 2, 3)...)) {
		t.Error("a message was lost")
	}
	gets(t, x, true, 1)
	if !x.Same(with(t, 3, ones(2, 3)...)) {
		t.Error("it was told")
	}
}

// P27.3: messages that were passed and those that were returned are the caller's.
func TestMessagesAreTheCallers(t *testing.T) {
	for _, add := range []func(q *queuing.Queue, m []uint32) api.Errno{
		(*queuing.Queue).Send,
		(*queuing.Queue).Push,
		func(q *queuing.Queue, m []uint32) api.Errno { return q.Back([][]uint32{m}) },
	} {
		q := of(t, 3, 3)
		m := []uint32{5, 6, 7}
		if e := add(q, m[:2]); e != api.OK || !slices.Equal(m, []uint32{5, 6, 7}) {
			t.Error("what was passed changes:", m)
		}
		spoil(m)
		holds(t, q, 2, []uint32{5, 6})
		c := q.Clone()
		all, again := q.All(), q.All()
		spoil(all[0])
		spoil(all)
		holds(t, q, 2, []uint32{5, 6})
		got, _, _ := q.Receive()
		spoil(got)
		if !equal(again, [][]uint32{{5, 6}}) {
			t.Error("All and Receive share")
		}
		drained := c.Clone().Drain()
		spoil(drained[0])
		spoil(drained)
		holds(t, c, 2, []uint32{5, 6})
	}
}

// P27.3: what is drained and put back is neither kept nor changed.
func TestListsAreTheCallers(t *testing.T) {
	q := with(t, 4, ones(1, 2, 3)...)
	l := q.Drain()
	sends(t, q, []uint32{4})
	if !equal(l, ones(1, 2, 3)) {
		t.Error("what was drained changes:", l)
	}
	back := append(make([][]uint32, 0, 8), l...)
	puts(t, q, back...)
	sent := back[:4]
	if !equal(back, ones(1, 2, 3)) || sent[3] != nil {
		t.Error("what was put back changes:", sent)
	}
	for _, m := range l {
		spoil(m)
	}
	spoil(back)
	holds(t, q, 0, ones(1, 2, 3, 4)...)
	rest := q.Drain()
	puts(t, q, rest[2:]...)
	sends(t, q, ones(5, 6)...)
	spoil(rest)
	holds(t, q, 0, ones(3, 4, 5, 6)...)
}

// P27.3: a message that grows in the hands of the caller does not reach into others.
func TestMessagesDoNotOverlap(t *testing.T) {
	q := of(t, 3, 4)
	long := []uint32{1, 2, 3, 4}
	sends(t, q, long[:1])
	pushes(t, q, long[1:2])
	puts(t, q, long[2:3], long[3:])
	_ = append(long[:0], 9, 9, 9, 9)
	for i, all := range [][][]uint32{q.All(), q.Clone().All(), q.Clone().Drain()} {
		_ = append(all[0], 7, 7, 7)
		if !equal(all, ones(3, 4, 1, 2)) {
			t.Error(i, all)
		}
	}
}

// P27.3: no queue.
func TestNil(t *testing.T) {
	var q *queuing.Queue
	for _, m := range [][]uint32{nil, {}, {1}, make([]uint32, 40)} {
		if a, b, c := q.Send(m), q.Push(m), q.Back([][]uint32{m}); a != api.ErrArg || b != api.ErrArg || c != api.ErrArg {
			t.Errorf("with %v: Send %d, Push %d, Back %d", m, a, b, c)
		}
	}
	if a, b := q.Back(nil), q.Back([][]uint32{}); a != api.ErrArg || b != api.ErrArg {
		t.Error("Back of nothing:", a, b)
	}
	nothing(t, q, false)
	holds(t, q, 0)
	q.Clear()
	if q.Drain() != nil || q.All() != nil || q.Clone() != nil || !q.Same(nil) {
		t.Error("Drain, All, Clone or Same")
	}
	for _, x := range []*queuing.Queue{of(t, 1, 1), with(t, 1, nil)} {
		if q.Same(x) || x.Same(q) || x.Same(nil) {
			t.Error("a nil queue is not equal to another")
		}
	}
}
