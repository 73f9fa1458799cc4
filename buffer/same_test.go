package buffer_test

import (
	"math"
	"testing"

	"monocoque/buffer"
)

// P24.4: Same looks at words, room, the kind of order, the messages, and who waits with which priority and message.
func TestSame(t *testing.T) {
	sent := func(byPriority bool, l ...[]uint32) *buffer.Buffer {
		b := of(t, 2, 2, byPriority)
		enters(t, b, 1, l...)
		return b
	}
	asked := func(byPriority bool, l ...int) *buffer.Buffer { // ids and priorities in turn
		b := of(t, 2, 2, byPriority)
		for i := 0; i < len(l); i += 2 {
			asks(t, b, l[i], l[i+1])
		}
		return b
	}
	stayed := func(byPriority bool, l ...int) *buffer.Buffer { // ids, priorities and messages in turn
		b := full(t, 2, 2, byPriority)
		for i := 0; i < len(l); i += 3 {
			stays(t, b, l[i], l[i+1], uint32(l[i+2]))
		}
		return b
	}
	all := func() (l []*buffer.Buffer) {
		both(func(by bool) {
			l = append(l, of(t, 1, 1, by), of(t, 1, 2, by), of(t, 2, 1, by), of(t, 2, 2, by), of(t, 32, 32, by),
				sent(by, nil), sent(by, nil, nil), sent(by, []uint32{0}), sent(by, []uint32{1}), sent(by, []uint32{0, 0}),
				sent(by, []uint32{1}, nil), sent(by, nil, []uint32{1}), sent(by, []uint32{1}, []uint32{2}), sent(by, []uint32{2}, []uint32{1}),
				asked(by, 0, 5), asked(by, 1, 5), asked(by, 1, 6), asked(by, 1, math.MinInt), asked(by, 1, 5, 2, 5), asked(by, 2, 5, 1, 5),
				asked(by, 1, 6, 2, 5), asked(by, 1, 5, 2, 4), asked(by, 1, 5, 2, 5, 3, 5),
				stayed(by), stayed(by, 0, 5, 1), stayed(by, 1, 5, 1), stayed(by, 1, 6, 1), stayed(by, 1, 5, 2), stayed(by, 1, 5, 1, 2, 5, 1),
				stayed(by, 2, 5, 1, 1, 5, 1), stayed(by, 1, 5, 1, 2, 5, 2), stayed(by, 1, 5, 2, 2, 5, 1), stayed(by, 1, 5, 1, 2, 4, 1))
		})
		return l
	}
	for i, a := range all() {
		for j, b := range all() {
			if a.Same(b) != (i == j) {
				t.Errorf("Same of %d and %d: %v", i, j, a.Same(b))
			}
		}
	}
}

// P24.4: a sender with an empty message is not one with another; nil and empty messages are the same.
func TestSameEmptyMessages(t *testing.T) {
	x, y, z := full(t, 1, 1, false), full(t, 1, 1, false), full(t, 1, 1, false)
	stays(t, x, 1, 5)
	stays(t, y, 1, 5, []uint32{}...)
	stays(t, z, 1, 5, 0)
	if !x.Same(y) || x.Same(z) || z.Same(y) {
		t.Error("senders that wait")
	}
	x, y = of(t, 1, 1, false), of(t, 1, 1, false)
	enters(t, x, 1, nil)
	enters(t, y, 1, []uint32{})
	if !x.Same(y) || x.Same(of(t, 1, 1, false)) {
		t.Error("messages")
	}
}

// P24.4: how a buffer came to be what it is makes no difference.
func TestSameWhateverWasBefore(t *testing.T) {
	both(func(byPriority bool) {
		x, y := of(t, 2, 2, byPriority), of(t, 2, 2, byPriority)
		asks(t, x, 4, 9)
		asks(t, x, 5, 8)
		reaches(t, x, 3, 4, 7)
		x.Drop(5)
		if !x.Same(y) || !y.Same(x) || !x.Same(x) {
			t.Error("both are empty")
		}
		enters(t, x, 3, []uint32{6}, []uint32{1})
		stays(t, x, 8, 3, 2)
		stays(t, x, 9, 3, 4)
		stays(t, x, 1, 3, 3, 3)
		gets(t, x, 5, 8, 6)
		enters(t, y, 7, []uint32{1}, []uint32{2})
		stays(t, y, 1, 3, 3, 3)
		if x.Same(y) {
			t.Error("9 waits")
		}
		x.Drop(9)
		if !x.Same(y) || !y.Same(x) {
			t.Error("the same messages, and the same id waits")
		}
	})
}
