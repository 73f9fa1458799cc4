package budget_test

import (
	"math"
	"testing"

	"monocoque/api"
	"monocoque/budget"
)

// The chapter's example.
func TestExample(t *testing.T) {
	s := of(t, 3, 10)
	charges(t, s, 4, 2, 2)
	charges(t, s, 8, 5, 1)
	leaves(t, s, 9, 0)
	follows(t, s, 9, 10)
	charges(t, s, 18, 5, 2)
	leaves(t, s, 19, 1)
}

// P30.1: each pair of numbers at and beyond the ends of what may be.
func TestNew(t *testing.T) {
	numbers := []int{math.MinInt, -1 << 32, -most, -1, 0, 1, 2, 3, 1 << 16, most - 1, most, most + 1, 1 << 32, 1<<32 + 1, 1<<32 + most, math.MaxInt}
	for _, size := range numbers {
		for _, period := range numbers {
			s, e := budget.New(size, period)
			if period < 1 || period > most || size < 1 || size > period {
				if s != nil || e != api.ErrRange {
					t.Errorf("New(%d, %d) = %v, %d, want ErrRange", size, period, s, e)
				}
				continue
			}
			if s == nil || e != api.OK {
				t.Fatalf("New(%d, %d) = %v, %d", size, period, s, e)
			}
			leaves(t, s, 0, size)
			follows(t, s, 0, period)
			leaves(t, s, period-1, 1)
			follows(t, s, period-1, period)
			leaves(t, s, period, size)
			follows(t, s, period, 2*period)
		}
	}
}

// P30.1: two calls make two servers.
func TestNewIsItsOwn(t *testing.T) {
	a, b := of(t, 3, 10), of(t, 3, 10)
	charges(t, a, 0, 3, 3)
	leaves(t, b, 0, 3)
	b.Reset(5)
	follows(t, a, 0, 10)
}

// P30.1: what is left while nothing is charged, at each tick.
func TestLeft(t *testing.T) {
	for period := 1; period <= 8; period++ {
		for size := 1; size <= period; size++ {
			for begin := range 4 {
				s := from(t, size, period, begin)
				for now := begin; now < begin+4*period; now++ {
					end := begin
					for end <= now {
						end += period
					}
					follows(t, s, now, end)
					leaves(t, s, now, min(size, end-now))
				}
				if !s.Same(from(t, size, period, begin)) {
					t.Error("Left or Next changes something")
				}
			}
		}
	}
}

// P30.1: what is charged of a period, and that what is not used of it is lost at its end.
func TestCharge(t *testing.T) {
	for begin := range 3 {
		s := from(t, 4, 6, begin)
		for k := range 5 {
			start := begin + 6*k
			charges(t, s, start, k, min(k, 4))
			leaves(t, s, start, 4-min(k, 4))
			leaves(t, s, start+3, min(3, 4-min(k, 4)))
			leaves(t, s, start+5, min(1, 4-min(k, 4)))
			leaves(t, s, start+6, 4)
			leaves(t, s, start+12, 4)
		}
	}
	s := of(t, 4, 6)
	charges(t, s, 4, 9, 2) // only 2 ticks are left of the period
	leaves(t, s, 5, 1)
	charges(t, s, 5, 9, 1)
	charges(t, s, 5, 9, 1)
	givesNothing(t, s, 5)
	charges(t, s, 6, 9, 4)
	givesNothing(t, s, 6)
	givesNothing(t, s, 11)
	leaves(t, s, 12, 4)
}

// P30.1: a charge does not take from the period after its own.
func TestChargeEndsWithThePeriod(t *testing.T) {
	for _, n := range []int{4, 5, 100, most, last, math.MaxInt} {
		s := of(t, 10, 10)
		charges(t, s, 7, n, 3)
		leaves(t, s, 10, 10)
		charges(t, s, 10, n, min(n, 10))
		leaves(t, s, 20, 10)
	}
}

// P30.1: of a period one may use all of it, or one tick.
func TestEndsOfSize(t *testing.T) {
	whole, one := of(t, 5, 5), of(t, 1, 5)
	for now := range 20 {
		charges(t, whole, now, 1, 1)
		if now%5 == 2 {
			charges(t, one, now, 1, 1)
		}
		if now%5 >= 2 {
			givesNothing(t, one, now)
		} else {
			leaves(t, one, now, 1)
		}
	}
	each := of(t, 1, 1)
	for now := range 5 {
		follows(t, each, now, now+1)
		charges(t, each, now, 2, 1)
		givesNothing(t, each, now)
	}
}

// P30.1: within one period an earlier tick is one like another; at each of them what was charged counts.
func TestEarlierInThePeriod(t *testing.T) {
	s := of(t, 5, 10)
	charges(t, s, 18, 2, 2)
	leaves(t, s, 10, 3)
	charges(t, s, 11, 2, 2)
	leaves(t, s, 19, 1)
	leaves(t, s, 10, 1)
	charges(t, s, 10, 9, 1)
	givesNothing(t, s, 10)
	givesNothing(t, s, 19)
	leaves(t, s, 20, 5)
}

// P30.2: ticks in periods before the last one in which something was charged.
func TestEarlierPeriods(t *testing.T) {
	for _, begin := range []int{0, 7, 1 << 39} {
		s := from(t, 3, 10, begin)
		charges(t, s, begin+25, 1, 1)
		for now := begin; now < begin+20; now++ {
			givesNothing(t, s, now)
			follows(t, s, now, begin+(now-begin)/10*10+10)
		}
		leaves(t, s, begin+20, 2)
		leaves(t, s, begin+30, 3)
		charges(t, s, begin+24, 3, 2)
		givesNothing(t, s, begin+19)
	}
}

// P30.2: where nothing is charged, that period is not the last one in which something was.
func TestNothingCharged(t *testing.T) {
	for _, n := range []int{math.MinInt, math.MinInt + 1, -1 << 40, -3, -1, 0} {
		s := of(t, 3, 10)
		charges(t, s, 35, n, 0)
		if !s.Same(of(t, 3, 10)) {
			t.Errorf("Charge(35, %d) changes something", n)
		}
		leaves(t, s, 5, 3)
		charges(t, s, 5, 2, 2)
		charges(t, s, 15, n, 0)
		charges(t, s, 5, n, 0)
		leaves(t, s, 5, 1)
		charges(t, s, 6, 2, 1)
	}
}

// P30.2: which numbers are ticks.
func TestTicks(t *testing.T) {
	for _, s := range []*budget.Server{of(t, 3, 10), from(t, 3, 10, 5), used(t, of(t, 3, 10), 4, 2), from(t, most, most, last)} {
		for _, now := range noTicks {
			givesNothing(t, s, now)
			follows(t, s, now, 0)
			before := s.Clone()
			s.Reset(now)
			if !s.Same(before) {
				t.Errorf("Reset(%d) changes something", now)
			}
		}
	}
	s := of(t, 3, 10)
	follows(t, s, last, last-last%10+10)
	leaves(t, s, last, min(3, 10-last%10))
	charges(t, s, last-1, 1, 1)
	charges(t, s, last, 3, 2)
	givesNothing(t, s, last)
}

// P30.2: the last tick of all, which a period goes beyond.
func TestLastTick(t *testing.T) {
	for _, period := range []int{1, 2, 1000, most - 1, most} {
		s := of(t, period, period)
		end := last/period*period + period
		follows(t, s, last, end)
		leaves(t, s, last, end-last)
		charges(t, s, last, math.MaxInt, end-last)
		s.Reset(last)
		follows(t, s, last, last+period)
		charges(t, s, last, period, period)
		givesNothing(t, s, last)
		givesNothing(t, s, last-1)
	}
}

// P30.2: ticks before the one at which the periods begin.
func TestBeforeTheBeginning(t *testing.T) {
	for _, begin := range []int{1, 2, 9, 10, 11, 1 << 20, 1 << 32, last - 1, last} {
		s := from(t, 3, 10, begin)
		for _, now := range []int{0, begin / 2, begin - 10, begin - 1} {
			givesNothing(t, s, now)
			follows(t, s, now, 0)
		}
		leaves(t, s, begin, 3)
		follows(t, s, begin, begin+10)
		charges(t, s, begin, 3, 3)
		givesNothing(t, s, begin-1)
	}
}

// P30.2: Reset, forth and back, with nothing used and with something.
func TestReset(t *testing.T) {
	s := of(t, 3, 10)
	for _, begin := range []int{0, 25, 25, 4, last, 0, 1 << 39, 3} {
		s.Reset(begin)
		if !s.Same(from(t, 3, 10, begin)) {
			t.Errorf("Reset(%d) leaves something", begin)
		}
		leaves(t, s, begin, 3)
		follows(t, s, begin, begin+10)
		if begin > 0 {
			givesNothing(t, s, begin-1)
		}
		charges(t, s, begin, 2, 2)
		if begin < last {
			charges(t, s, begin+11, 2, 2)
		}
	}
}

// P30.3: what a server and its clone become is up to each of them.
func TestClone(t *testing.T) {
	s := from(t, 3, 10, 7)
	charges(t, s, 20, 1, 1)
	c := s.Clone()
	if c == s || !c.Same(s) || !s.Same(c) {
		t.Fatal("a clone is not the same")
	}
	charges(t, s, 21, 2, 2)
	leaves(t, c, 21, 2)
	c.Reset(0)
	givesNothing(t, c.Clone(), -1)
	follows(t, c, 0, 10)
	follows(t, s, 7, 17)
	givesNothing(t, s, 22)
	d := s.Clone()
	s.Reset(40)
	givesNothing(t, d, 22)
	leaves(t, d, 27, 3)
	givesNothing(t, d, 10)
}

// P30.3: Same looks at size, period, beginning, the last period and what was charged in it.
func TestSame(t *testing.T) {
	all := func() []*budget.Server {
		return []*budget.Server{
			of(t, 1, 1), of(t, 1, 2), of(t, 2, 2), of(t, 3, 10), of(t, 3, 11), of(t, 4, 10), of(t, 10, 10), of(t, most, most),
			from(t, 3, 10, 1), from(t, 3, 10, 10), from(t, 3, 10, 20), from(t, 3, 10, last),
			used(t, of(t, 3, 10), 0, 1), used(t, of(t, 3, 10), 0, 2), used(t, of(t, 3, 10), 0, 3), used(t, of(t, 3, 11), 0, 1),
			used(t, of(t, 3, 10), 10, 1), used(t, of(t, 3, 10), 10, 2), used(t, of(t, 3, 10), 20, 1), used(t, of(t, 4, 10), 0, 1),
			used(t, from(t, 3, 10, 10), 10, 1), used(t, from(t, 3, 10, 10), 20, 1), used(t, from(t, 3, 10, 9), 19, 1),
			used(t, of(t, 3, 10), 1<<32, 1), used(t, of(t, 3, 10), last, 1),
		}
	}
	for i, a := range all() {
		for j, b := range all() {
			if a.Same(b) != (i == j) {
				t.Errorf("Same of %d and %d: %v", i, j, a.Same(b))
			}
		}
	}
}

// P30.3: how a server came to be what it is makes no difference.
func TestSameWhateverWasBefore(t *testing.T) {
	s := of(t, 3, 10)
	charges(t, s, 4, 2, 2)
	charges(t, s, 15, 1, 1)
	charges(t, s, 12, 9, 2)
	s.Charge(3, 1)
	s.Charge(29, -1)
	s.Charge(13, 5)
	s.Left(99)
	s.Next(99)
	if x := used(t, of(t, 3, 10), 10, 3); !s.Same(x) || !x.Same(s) {
		t.Error("3 were charged in the second period")
	}
	s.Reset(0)
	if !s.Same(of(t, 3, 10)) {
		t.Error("nothing was used")
	}
}

// P30.3: no server.
func TestNil(t *testing.T) {
	var s *budget.Server
	for _, now := range append(noTicks, 0, 1, 10, last) {
		leaves(t, s, now, 0)
		follows(t, s, now, 0)
		for _, n := range amounts {
			if got, less := s.Charge(now, n); got != 0 || less != (n > 0) {
				t.Errorf("Charge(%d, %d) = %d, %v", now, n, got, less)
			}
		}
		s.Reset(now)
	}
	if s.Clone() != nil || !s.Same(nil) {
		t.Error("Clone or Same")
	}
	for _, x := range []*budget.Server{of(t, 1, 1), used(t, of(t, 1, 1), 0, 1)} {
		if s.Same(x) || x.Same(s) || x.Same(nil) {
			t.Error("a nil server is not equal to another")
		}
	}
}
