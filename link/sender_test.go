package link_test

import (
	"math"
	"slices"
	"testing"

	"monocoque/api"
	"monocoque/link"
)

// The chapter's example.
func TestExample(t *testing.T) {
	s := sender(t, 3, 1, 2, ones(7, 8)...)
	sends(t, s, 0, 0, 7)
	rests(t, s, 2)
	sends(t, s, 3, 1, 8)
	r := receiver(t, 1)
	takes(t, r, 0, 0, 7)
	fails(t, r, api.ErrTwice, 1, 0, 7)
	takes(t, r, 1, 2, 9)
	takes(t, r, 0, 1, 8)
	if link.Numbers != 256 || link.Nets != 2 {
		t.Error("Numbers or Nets:", link.Numbers, link.Nets)
	}
}

// P29.1: all numbers at and beyond the ends of what may be.
func TestNewSender(t *testing.T) {
	gaps := []int{math.MinInt, -1 << 20, -1, 0, 1, 5, 1<<20 - 1, 1 << 20, 1<<20 + 1, 1 << 32, 1<<32 + 1, last, math.MaxInt}
	sizes := []int{math.MinInt, -32, -1, 0, 1, 2, 31, 32, 33, 64, 1 << 20, 1 << 32, 1<<32 + 1, math.MaxInt}
	for _, gap := range gaps {
		for _, words := range sizes {
			for _, room := range sizes {
				s, e := link.NewSender(gap, words, room)
				if gap < 0 || gap > 1<<20 || words < 1 || words > 32 || room < 1 || room > 32 {
					if s != nil || e != api.ErrArg {
						t.Errorf("NewSender(%d, %d, %d) = %v, %d, want ErrArg", gap, words, room, s, e)
					}
					continue
				}
				if s == nil || e != api.OK || s.Waiting() != 0 {
					t.Fatalf("NewSender(%d, %d, %d) = %v, %d", gap, words, room, s, e)
				}
				rests(t, s, 0, 1, 1<<20, last)
			}
		}
	}
}

// P29.1: a message may have so many words and no more, which is listed before that there is no room.
func TestOfferWords(t *testing.T) {
	for words := 1; words <= 32; words++ {
		s := sender(t, 0, words, 2)
		for n := range 40 {
			m := slices.Repeat([]uint32{math.MaxUint32}, n)
			if n > words {
				refuses(t, s, api.ErrRange, m...)
				continue
			}
			offers(t, s, m)
			sends(t, s, n, n, m...)
		}
		offers(t, s, nil, make([]uint32, words))
		refuses(t, s, api.ErrRange, make([]uint32, words+1)...)
		refuses(t, s, api.ErrFull, make([]uint32, words)...)
		refuses(t, s, api.ErrFull)
	}
}

// P29.1: so many messages may wait and no more; they are sent in the order in which they were offered.
func TestOfferRoom(t *testing.T) {
	for room := 1; room <= 32; room++ {
		s, next := sender(t, 0, 1, room), 0
		for range 3 {
			for s.Waiting() < room {
				offers(t, s, ones(uint32(next+s.Waiting()))...)
			}
			refuses(t, s, api.ErrFull, 1)
			refuses(t, s, api.ErrRange, 1, 2)
			for range (room + 1) / 2 {
				sends(t, s, next, next, uint32(next))
				next++
			}
		}
		for s.Waiting() > 0 {
			sends(t, s, next, next, uint32(next))
			next++
		}
		rests(t, s, next, last)
	}
}

// P29.1: an empty message is one.
func TestOfferEmpty(t *testing.T) {
	s := sender(t, 2, 1, 3, nil, []uint32{}, []uint32{4})
	sends(t, s, 5, 0)
	rests(t, s, 5, 6)
	sends(t, s, 7, 1)
	sends(t, s, 9, 2, 4)
}

// P29.1: a frame is sent at the tick of the last one plus the gap, or at any tick after that, and not before.
func TestGap(t *testing.T) {
	for _, gap := range []int{0, 1, 2, 3, 100, 1<<20 - 1, 1 << 20} {
		apart := max(gap, 1)
		for _, first := range []int{0, 1, 2, 1 << 20, 1 << 32, 1 << 39, last - 4*apart} {
			s := sender(t, gap, 1, 4, ones(1, 2, 3, 4)...)
			sends(t, s, first, 0, 1)
			rests(t, s, 0, first-1, first, first+apart-1)
			sends(t, s, first+apart, 1, 2)
			rests(t, s, first, first+apart, first+2*apart-1)
			sends(t, s, first+2*apart+1, 2, 3) // a later one: the gap is counted from there
			rests(t, s, first+3*apart)
			sends(t, s, first+3*apart+1, 3, 4)
			rests(t, s, last)
		}
	}
}

// P29.1: ticks on which nothing is sent make no difference, nor when a message was offered.
func TestGapIsFromFrames(t *testing.T) {
	s := sender(t, 5, 1, 2)
	rests(t, s, 0, 3, 100)
	offers(t, s, ones(1)...)
	sends(t, s, 1, 0, 1) // an earlier tick than before
	rests(t, s, 2, 3, 50, 100)
	offers(t, s, ones(2)...)
	rests(t, s, 5)
	sends(t, s, 6, 1, 2)
	offers(t, s, ones(3)...)
	rests(t, s, 10, 0)
	sends(t, s, 1000, 2, 3)
	offers(t, s, ones(4)...)
	rests(t, s, 11, 1004)
	sends(t, s, 1005, 3, 4)
}

// P29.1: which numbers are ticks.
func TestTicks(t *testing.T) {
	s := sender(t, 0, 1, 4, ones(1, 2, 3)...)
	rests(t, s, noTicks...)
	sends(t, s, 0, 0, 1)
	rests(t, s, noTicks...)
	sends(t, s, last-1, 1, 2)
	rests(t, s, noTicks...)
	sends(t, s, last, 2, 3)
	offers(t, s, ones(4)...)
	rests(t, s, append(noTicks, 0, last)...)
	s = sender(t, 1<<20, 1, 1, ones(1)...)
	rests(t, s, noTicks...)
	sends(t, s, last, 0, 1)
}

// P29.1: the number after 255 is 0, as often as it comes to that.
func TestNumbers(t *testing.T) {
	s := sender(t, 1, 2, 1)
	for i := range 1000 {
		offers(t, s, []uint32{uint32(i)})
		sends(t, s, 3*i, i%256, uint32(i))
	}
}

// P29.3: what a sender and its clone become is up to each of them.
func TestCloneSender(t *testing.T) {
	s := sender(t, 3, 2, 4, ones(1, 2, 3)...)
	sends(t, s, 5, 0, 1)
	c := s.Clone()
	if c == s || !c.Same(s) || !s.Same(c) || c.Waiting() != 2 {
		t.Fatal("a clone is not the same")
	}
	sends(t, s, 8, 1, 2)
	rests(t, c, 7)
	refuses(t, c, api.ErrRange, 1, 2, 3)
	offers(t, c, ones(4, 5)...)
	refuses(t, c, api.ErrFull)
	if s.Waiting() != 1 || s.Same(c) {
		t.Error("the clone changes the sender")
	}
	d := c.Clone()
	for i, m := range ones(2, 3, 4, 5) {
		sends(t, c, 8+3*i, 1+i, m...)
	}
	for i, m := range ones(2, 3, 4, 5) {
		sends(t, d, 9+3*i, 1+i, m...)
	}
	sends(t, s, 11, 2, 3)
	offers(t, d.Clone(), ones(9)...)
	rests(t, d, last)
}

// P29.3: Same looks at gap, words, room, messages, number and tick of the last frame.
func TestSameSenders(t *testing.T) {
	after := func(s *link.Sender, ticks ...int) *link.Sender {
		for _, now := range ticks {
			sends(t, s, now, number(s), 1)
		}
		return s
	}
	all := func() []*link.Sender {
		return []*link.Sender{
			sender(t, 0, 1, 1), sender(t, 1, 1, 1), sender(t, 0, 2, 1), sender(t, 0, 1, 2),
			sender(t, 0, 1, 1, nil), sender(t, 0, 1, 1, []uint32{0}), sender(t, 0, 1, 1, []uint32{1}),
			sender(t, 0, 2, 2, nil), sender(t, 0, 2, 2, nil, nil), sender(t, 0, 2, 2, []uint32{0}, nil),
			sender(t, 0, 2, 2, nil, []uint32{0}), sender(t, 0, 2, 2, []uint32{0, 0}, nil), sender(t, 0, 2, 2, ones(1, 2)...),
			sender(t, 0, 2, 2, ones(2, 1)...), sender(t, 0, 2, 2, ones(1, 1)...),
			after(sender(t, 0, 1, 1, ones(1)...), 0),
			after(sender(t, 0, 1, 1, ones(1)...), 1),
			after(sender(t, 0, 1, 1, ones(1)...), 1<<32),
			after(sender(t, 0, 1, 1, ones(1)...), last),
			after(sender(t, 0, 1, 2, ones(1)...), 0),
			after(sender(t, 0, 1, 2, ones(1, 1)...), 0, 1),
			after(sender(t, 0, 1, 2, ones(1, 1)...), 1),
		}
	}
	for i, a := range all() {
		for j, b := range all() {
			if a.Same(b) != (i == j) {
				t.Errorf("Same of %d and %d: %v", i, j, a.Same(b))
			}
		}
	}
}

// number tells the number of the frame that a sender sends next.
func number(s *link.Sender) int {
	f, _ := s.Clone().Step(last)
	return f.Number
}

// P29.3: the number of the next frame counts, even where all else is equal.
func TestSameNumber(t *testing.T) {
	sent := func(n int) *link.Sender {
		s := sender(t, 0, 1, 1)
		for i := range n {
			offers(t, s, ones(1)...)
			sends(t, s, 1000-n+i, i%256, 1)
		}
		return s
	}
	for _, n := range []int{2, 3, 255, 256, 257, 258} {
		for _, m := range []int{2, 3, 255, 256, 257, 258} {
			if is := n%256 == m%256; sent(n).Same(sent(m)) != is {
				t.Errorf("Same after %d and %d frames is not %v", n, m, is)
			}
		}
	}
	if sent(256).Same(sent(0)) {
		t.Error("a sender that sent a frame is the same as one that did not")
	}
}

// P29.5: messages that were passed and those that were returned are the caller's.
func TestSenderMemory(t *testing.T) {
	s, m := sender(t, 1, 3, 4), []uint32{5, 6, 7}
	offers(t, s, m[:2], m)
	if !slices.Equal(m, []uint32{5, 6, 7}) {
		t.Error("what was passed changes:", m)
	}
	spoil(m)
	c := s.Clone()
	f, _ := s.Step(0)
	if !slices.Equal(f.Words, []uint32{5, 6}) {
		t.Error("the sender keeps what was passed:", f)
	}
	offers(t, s, ones(8, 9)...)
	sends(t, s, 1, 1, 5, 6, 7)
	if !slices.Equal(f.Words, []uint32{5, 6}) {
		t.Error("what was sent changes:", f)
	}
	spoil(f.Words)
	sends(t, s, 2, 2, 8)
	sends(t, s, 3, 3, 9)
	sends(t, c, 0, 0, 5, 6)
	sends(t, c, 1, 1, 5, 6, 7)
}

// P29.3 and P29.5: no sender.
func TestNilSender(t *testing.T) {
	var s *link.Sender
	for _, m := range [][]uint32{nil, {}, {1}, make([]uint32, 40)} {
		if e := s.Offer(m); e != api.ErrArg {
			t.Errorf("Offer(%v) = %d", m, e)
		}
	}
	for _, now := range append(noTicks, 0, 1, last) {
		if f, is := s.Step(now); is || f.Number != 0 || f.Words != nil {
			t.Errorf("Step(%d) = %v, %v", now, f, is)
		}
	}
	if s.Waiting() != 0 || s.Clone() != nil || !s.Same(nil) {
		t.Error("Waiting, Clone or Same")
	}
	if x := sender(t, 0, 1, 1); s.Same(x) || x.Same(s) || x.Same(nil) {
		t.Error("a nil sender is not equal to another")
	}
}
