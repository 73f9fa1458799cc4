package link_test

import (
	"math"
	"slices"
	"testing"

	"monocoque/api"
	"monocoque/link"
)

// P29.2: which numbers may be.
func TestNewReceiver(t *testing.T) {
	for _, words := range []int{math.MinInt, -32, -1, 0, 33, 64, 1 << 20, 1 << 32, 1<<32 + 1, math.MaxInt} {
		if r, e := link.NewReceiver(words); r != nil || e != api.ErrArg {
			t.Errorf("NewReceiver(%d) = %v, %d, want ErrArg", words, r, e)
		}
	}
	for words := 1; words <= 32; words++ {
		lost(t, receiver(t, words), 0)
	}
}

// P29.2: networks and numbers that there are not, which is listed first.
func TestWrongFrames(t *testing.T) {
	far := []int{math.MinInt, math.MinInt + 1, -1 << 32, -256, -255, -1}
	r := receiver(t, 2)
	for later := range 3 {
		for _, net := range append(far, 2, 3, 256, 1<<32, 1<<32+1, math.MaxInt) {
			for _, number := range []int{-1, 0, 1, 3, 255, 256} {
				fails(t, r, api.ErrArg, net, number)
				fails(t, r, api.ErrArg, net, number, 1, 2, 3)
			}
		}
		for _, number := range append(far, 256, 257, 512, 1<<32, 1<<32+1, math.MaxInt) {
			for net := range 2 {
				fails(t, r, api.ErrArg, net, number)
				fails(t, r, api.ErrArg, net, number, 1, 2)
				fails(t, r, api.ErrArg, net, number, 1, 2, 3)
			}
		}
		takes(t, r, 0, 3+later, 1, 2)
	}
}

// P29.2: a message may have so many words and no more; that is listed before whether it is old or was there.
func TestTakeWords(t *testing.T) {
	for words := 1; words <= 32; words++ {
		r := receiver(t, words)
		for n := range 40 {
			m := slices.Repeat([]uint32{math.MaxUint32}, n)
			if n > words {
				for number := range 256 { // of all distances
					fails(t, r, api.ErrRange, n%2, number, m...)
				}
			} else {
				takes(t, r, n%2, n, m...)
			}
		}
	}
}

// P29.2: an empty message is one.
func TestTakeEmpty(t *testing.T) {
	r := receiver(t, 1)
	for i, m := range [][]uint32{nil, {}} {
		if got, is, e := r.Take(0, link.Frame{Number: i, Words: m}); len(got) != 0 || !is || e != api.OK {
			t.Errorf("Take of an empty message: %v, %v, %d", got, is, e)
		}
		fails(t, r, api.ErrTwice, 1, i)
	}
}

// at returns a receiver whose newest number this is, with all earlier ones; nothing is lost.
func at(t *testing.T, newest int) *link.Receiver {
	t.Helper()
	r := receiver(t, 1)
	for number := range newest + 1 {
		takes(t, r, number%2, number)
	}
	return r
}

// P29.2: each distance from each newest number: newer, there already, or old.
func TestDistances(t *testing.T) {
	for _, newest := range []int{0, 1, 62, 63, 64, 126, 127, 128, 129, 191, 192, 193, 254, 255} {
		for distance := range 256 {
			r, number := at(t, newest), (newest+distance)%256
			switch older := (256 - distance) % 256; {
			case distance >= 1 && distance <= 127:
				takes(t, r, 0, number, 1)
				fails(t, r, api.ErrTwice, 1, number, 1)
				lost(t, r, max(distance-64, 0))
			case older >= 64:
				fails(t, r, api.ErrOld, 0, number, 1)
			default:
				fails(t, r, api.ErrTwice, 0, number, 1)
			}
		}
	}
}

// P29.2: at first the newest number is 255, and the last 64 ones have arrived.
func TestAtFirst(t *testing.T) {
	for number := range 256 {
		r := receiver(t, 1)
		switch {
		case number <= 126:
			takes(t, r, 0, number, 1)
			lost(t, r, max(number-63, 0))
		case number <= 255-64:
			fails(t, r, api.ErrOld, 1, number, 1)
		default:
			fails(t, r, api.ErrTwice, 0, number, 1)
		}
	}
}

// P29.2: a number that was skipped may arrive until it is older by 64, and then is lost, once.
func TestSkipped(t *testing.T) {
	for _, step := range []int{1, 2, 5, 23, 59, 62, 63, 64, 65, 68, 98, 126} {
		for skipped := range step {
			for late := range 70 {
				r := at(t, 100)
				number := 101 + skipped
				takes(t, r, 0, (101+step)%256) // step numbers are skipped, this one among them
				gone := max(step-63, 0)
				lost(t, r, gone)
				for i := range late {
					takes(t, r, 1, (102+step+i)%256)
				}
				older := step - skipped + late
				if older < 64 {
					takes(t, r, 0, number%256, 9)
					fails(t, r, api.ErrTwice, 1, number%256, 9)
				} else if older < 128 {
					fails(t, r, api.ErrOld, 0, number%256, 9)
				}
				lost(t, r, min(max(step+late-63, 0), step))
			}
		}
	}
}

// P29.2: a number that came later than others isn't lost, and the newest one stays the newest.
func TestOutOfOrder(t *testing.T) {
	r := receiver(t, 1)
	takes(t, r, 0, 10, 1)
	for _, number := range []int{3, 9, 0, 5, 8, 1, 2, 4, 7} {
		takes(t, r, number%2, number, uint32(number))
		fails(t, r, api.ErrTwice, 0, number, 1)
	}
	takes(t, r, 1, 11, 1)
	for number := 12; number < 12+200; number++ {
		takes(t, r, 1, number, 1)
		lost(t, r, min(1, max(number-69, 0))) // 6 is older by 64 from 70 on
	}
}

// P29.2: numbers begin anew after 255; all is counted further.
func TestRound(t *testing.T) {
	r, want := receiver(t, 1), 0
	for i := 0; i < 256*5; i += 3 { // two of three do not arrive
		takes(t, r, i%2, i%256, uint32(i))
		fails(t, r, api.ErrTwice, (i+1)%2, i%256, uint32(i))
		for gone := max(i-64-2, 0); gone <= i-64; gone++ {
			if gone%3 != 0 {
				want++
			}
		}
		lost(t, r, want)
	}
}

// P29.3: what a receiver and its clone become is up to each of them.
func TestCloneReceiver(t *testing.T) {
	r := receiver(t, 2)
	takes(t, r, 0, 100, 1, 2)
	c := r.Clone()
	if c == r || !c.Same(r) || !r.Same(c) {
		t.Fatal("a clone is not the same")
	}
	lost(t, c, 37)
	takes(t, r, 0, 101)
	takes(t, c, 0, 99, 3, 4)
	takes(t, c, 0, 101)
	takes(t, r, 1, 99)
	if !c.Same(r) {
		t.Error("both took the same frames")
	}
	takes(t, c, 1, 104)
	lost(t, r, 38)
	lost(t, c, 41)
	fails(t, c, api.ErrRange, 0, 99, 1, 2, 3)
}

// P29.3: Same looks at words, the newest number, what has arrived, and the number of lost frames.
func TestSameReceivers(t *testing.T) {
	after := func(words int, numbers ...int) *link.Receiver {
		r := receiver(t, words)
		for _, n := range numbers {
			takes(t, r, 0, n)
		}
		return r
	}
	all := func() []*link.Receiver {
		return []*link.Receiver{
			after(1), after(2), after(32), after(1, 0), after(1, 1), after(1, 0, 1), after(2, 0, 1), after(1, 0, 1, 2), after(1, 1, 2),
			after(1, 0, 2), after(1, 2), after(1, 63), after(1, 0, 63), after(1, 63, 1), after(1, 64), after(1, 64, 1), after(1, 0, 64),
			after(1, 126), after(1, 126, 252), after(1, 126, 252, 122), after(1, 62, 188, 252, 122), after(1, 61, 62, 188, 252, 122),
		}
	}
	for i, a := range all() {
		for j, b := range all() {
			if a.Same(b) != (i == j) {
				t.Errorf("Same of %d and %d: %v", i, j, a.Same(b))
			}
		}
	}
}

// P29.3: how a receiver came to be what it is makes no difference.
func TestSameWhateverWasBefore(t *testing.T) {
	a, b := receiver(t, 1), receiver(t, 1)
	for i := range 256 {
		takes(t, a, 0, i, 1)
	}
	if !a.Same(b) { // one that has come round is as at first
		t.Error("it is not as at first")
	}
	takes(t, a, 0, 5)
	takes(t, a, 1, 3)
	takes(t, b, 0, 3, 7)
	a.Take(1, link.Frame{Number: 3})
	takes(t, b, 0, 5)
	b.Take(5, link.Frame{Number: 9})
	b.Take(0, link.Frame{Number: 180})
	if !a.Same(b) || !b.Same(a) || !a.Same(a) {
		t.Error("both took the same frames")
	}
}

// P29.5: messages that were passed and those that were returned are the caller's.
func TestReceiverMemory(t *testing.T) {
	r, m := receiver(t, 3), []uint32{5, 6, 7}
	got, _, _ := r.Take(0, link.Frame{Number: 0, Words: m[:2]})
	if !slices.Equal(m, []uint32{5, 6, 7}) || !slices.Equal(got, m[:2]) {
		t.Error("what was passed changes:", m, got)
	}
	spoil(m)
	if !slices.Equal(got, []uint32{5, 6}) {
		t.Error("what was returned changes:", got)
	}
}

// P29.3 and P29.5: no receiver.
func TestNilReceiver(t *testing.T) {
	var r *link.Receiver
	for _, net := range []int{-1, 0, 1, 2} {
		for _, number := range []int{-1, 0, 255, 256} {
			if m, is, e := r.Take(net, link.Frame{Number: number, Words: make([]uint32, 40)}); m != nil || is || e != api.ErrArg {
				t.Errorf("Take(%d, %d) = %v, %v, %d", net, number, m, is, e)
			}
		}
	}
	lost(t, r, 0)
	if r.Clone() != nil || !r.Same(nil) {
		t.Error("Clone or Same")
	}
	if x := receiver(t, 1); r.Same(x) || x.Same(r) || x.Same(nil) {
		t.Error("a nil receiver is not equal to another")
	}
}
