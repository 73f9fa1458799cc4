package span_test

import (
	"math"
	"slices"
	"testing"

	"monocoque/api"
	"monocoque/span"
)

const far = 1 << 60 // the far end of what is promised of ticks

// ticks lists those of a span from -9 to 9 by the definition, one by one.
func ticks(s span.Span) []int {
	var l []int
	for t := -9; t <= 9; t++ {
		if t >= s.From && t < s.To {
			l = append(l, t)
		}
	}
	return l
}

// nearSpans are all spans, empty and reversed ones too, with ends from -4 to 4.
func nearSpans() []span.Span {
	var l []span.Span
	for from := -4; from <= 4; from++ {
		for to := -4; to <= 4; to++ {
			l = append(l, span.Span{From: from, To: to})
		}
	}
	return l
}

// P1.1, ordinary and empty spans: each against the ticks, counted one by one.
func TestSpansAgainstTheirTicks(t *testing.T) {
	for _, s := range nearSpans() {
		l := ticks(s)
		if s.Len() != len(l) {
			t.Errorf("%v.Len() = %d, but its ticks are %v", s, s.Len(), l)
		}
		for x := -9; x <= 9; x++ {
			if s.Has(x) != slices.Contains(l, x) {
				t.Errorf("%v.Has(%d) = %v", s, x, s.Has(x))
			}
		}
	}
}

// P1.1: what two spans have in common, tick by tick.
func TestAndAgainstTheirTicks(t *testing.T) {
	for _, s := range nearSpans() {
		for _, o := range nearSpans() {
			var both []int
			for _, x := range ticks(s) {
				if slices.Contains(ticks(o), x) {
					both = append(both, x)
				}
			}
			want := span.Span{}
			if len(both) > 0 {
				want = span.Span{From: both[0], To: both[len(both)-1] + 1}
			}
			if got := s.And(o); got != want {
				t.Errorf("%v.And(%v) = %v, want %v", s, o, got, want)
			}
		}
	}
}

// P1.1 at the far ends, and with numbers above 2^40.
func TestFarSpans(t *testing.T) {
	for _, x := range []struct {
		s span.Span
		n int
	}{
		{span.Span{From: -far, To: far}, 2 * far},
		{span.Span{From: far, To: -far}, 0},
		{span.Span{From: far, To: far}, 0},
		{span.Span{From: -far, To: -far}, 0},
		{span.Span{From: far - 1, To: far}, 1},
		{span.Span{From: -far, To: 1 - far}, 1},
		{span.Span{From: 0, To: far}, far},
		{span.Span{From: -far, To: 0}, far},
		{span.Span{From: 1 << 40, To: 1<<40 + 5}, 5},
		{span.Span{From: -1 << 41, To: 1 << 42}, 3 << 41},
		{span.Span{}, 0},
	} {
		if got := x.s.Len(); got != x.n {
			t.Errorf("%v.Len() = %d, want %d", x.s, got, x.n)
		}
	}
	for _, x := range []struct{ a, b, both span.Span }{
		{span.Span{From: -far, To: far}, span.Span{From: -far, To: far}, span.Span{From: -far, To: far}},
		{span.Span{From: -far, To: 1}, span.Span{From: 0, To: far}, span.Span{From: 0, To: 1}},
		{span.Span{From: -far, To: 0}, span.Span{From: 0, To: far}, span.Span{}},
		{span.Span{From: far, To: -far}, span.Span{From: -far, To: far}, span.Span{}},
		{span.Span{From: far - 2, To: far}, span.Span{From: 1 << 40, To: far - 1}, span.Span{From: far - 2, To: far - 1}},
	} {
		if x.a.And(x.b) != x.both || x.b.And(x.a) != x.both {
			t.Errorf("%v and %v: %v and %v, want %v", x.a, x.b, x.a.And(x.b), x.b.And(x.a), x.both)
		}
	}
}

// P1.1: Has takes any int.
func TestHasOfAnyInt(t *testing.T) {
	all := span.Span{From: -far, To: far}
	for _, x := range []struct {
		s   span.Span
		t   int
		has bool
	}{
		{all, -far, true}, {all, -far - 1, false}, {all, far - 1, true}, {all, far, false}, {all, 0, true},
		{all, math.MinInt, false}, {all, math.MaxInt, false},
		{span.Span{From: far, To: -far}, 0, false}, {span.Span{From: far, To: -far}, math.MaxInt, false}, {span.Span{From: far, To: -far}, math.MinInt, false},
		{span.Span{}, 0, false},
	} {
		if x.s.Has(x.t) != x.has {
			t.Errorf("%v.Has(%d) = %v", x.s, x.t, !x.has)
		}
	}
}

// slowGcd tries all numbers; 0 if none of l is other than 0.
func slowGcd(l ...int) int {
	most := 0
	for _, n := range l {
		most = max(most, n, -n)
	}
	for g := most; g > 0; g-- {
		if !slices.ContainsFunc(l, func(n int) bool { return n%g != 0 }) {
			return g
		}
	}
	return 0
}

// P1.2: all small lists of up to three elements.
func TestGcdAgainstTrying(t *testing.T) {
	if span.Gcd() != 0 {
		t.Error("Gcd of nothing is", span.Gcd())
	}
	for a := -12; a <= 12; a++ {
		if span.Gcd(a) != slowGcd(a) {
			t.Errorf("Gcd(%d) = %d", a, span.Gcd(a))
		}
		for b := -12; b <= 12; b++ {
			if span.Gcd(a, b) != slowGcd(a, b) {
				t.Errorf("Gcd(%d, %d) = %d", a, b, span.Gcd(a, b))
			}
			for c := -12; c <= 12; c++ {
				if span.Gcd(a, b, c) != slowGcd(a, b, c) {
					t.Errorf("Gcd(%d, %d, %d) = %d", a, b, c, span.Gcd(a, b, c))
				}
			}
		}
	}
}

// P1.2: zeros, negative and large elements, many of them.
func TestGcdOfOthers(t *testing.T) {
	for i, x := range []struct {
		l []int
		n int
	}{
		{[]int{0, 0, 0}, 0}, {[]int{0, -7}, 7}, {[]int{-7, 0}, 7}, {[]int{-12, -18}, 6},
		{[]int{1 << 62, 1 << 61}, 1 << 61}, {[]int{-1 << 62, 0, 3 << 60}, 1 << 60},
		{[]int{math.MaxInt}, math.MaxInt}, {[]int{-math.MaxInt}, math.MaxInt}, {[]int{math.MaxInt, math.MaxInt - 1}, 1},
		{[]int{-math.MaxInt, math.MaxInt}, math.MaxInt}, {[]int{1<<40 + 1, 3 << 41}, 1},
		{[]int{30, 42, 70, 105}, 1}, {[]int{60, 84, 0, -140, 20}, 4}, {slices.Repeat([]int{-6, 10}, 500), 2},
	} {
		if got := span.Gcd(x.l...); got != x.n {
			t.Errorf("%d: Gcd = %d, want %d", i, got, x.n)
		}
	}
}

// slowLcm tries all numbers from 1 on; elements must be positive.
func slowLcm(l ...int) int {
	for n := 1; ; n++ {
		if !slices.ContainsFunc(l, func(x int) bool { return n%x != 0 }) {
			return n
		}
	}
}

// P1.2: all small lists of up to three elements, zero and negative ones too.
func TestLcmAgainstTrying(t *testing.T) {
	check := func(l ...int) {
		want, err := 0, api.ErrRange
		if len(l) == 0 || slices.Min(l) > 0 {
			want, err = slowLcm(l...), api.OK
		}
		if got, e := span.Lcm(l...); got != want || e != err {
			t.Errorf("Lcm(%v) = %d, %d, want %d, %d", l, got, e, want, err)
		}
	}
	check()
	for a := -2; a <= 10; a++ {
		check(a)
		for b := -2; b <= 10; b++ {
			check(a, b)
			for c := -2; c <= 10; c++ {
				check(a, b, c)
			}
		}
	}
}

// P1.2: around the bound, and beyond what an int can hold.
func TestLcmAtItsBound(t *testing.T) {
	for i, x := range []struct {
		l []int
		n int
		e api.Errno
	}{
		{nil, 1, api.OK}, {[]int{}, 1, api.OK}, {[]int{1}, 1, api.OK},
		{[]int{1 << 40}, 1 << 40, api.OK}, {[]int{1<<40 - 1}, 1<<40 - 1, api.OK}, {[]int{1<<40 + 1}, 0, api.ErrRange},
		{[]int{1 << 40, 1 << 39, 1 << 40, 1}, 1 << 40, api.OK}, {[]int{1 << 40, 3}, 0, api.ErrRange}, {[]int{3, 1 << 39}, 0, api.ErrRange},
		{[]int{3, 1 << 38}, 3 << 38, api.OK}, {[]int{6, 1 << 38, 9 << 30}, 0, api.ErrRange},
		{[]int{1 << 20, 1<<20 - 1}, 1<<40 - 1<<20, api.OK}, {[]int{1 << 20, 1<<20 + 1}, 0, api.ErrRange},
		{[]int{1<<20 - 1, 1<<20 + 1}, 1<<40 - 1, api.OK}, {[]int{1<<20 - 1, 1<<20 + 1, 1 << 20}, 0, api.ErrRange},
		{[]int{1 << 40, 1<<40 - 1}, 0, api.ErrRange}, {[]int{1 << 33, 1<<31 + 1}, 0, api.ErrRange},
		{[]int{math.MaxInt}, 0, api.ErrRange}, {[]int{math.MaxInt, math.MaxInt - 1}, 0, api.ErrRange}, {[]int{1 << 62, 1 << 62}, 0, api.ErrRange},
		{[]int{3, 1 << 62}, 0, api.ErrRange}, {[]int{5, 0}, 0, api.ErrRange}, {[]int{0}, 0, api.ErrRange}, {[]int{-1}, 0, api.ErrRange},
		{[]int{5, -5}, 0, api.ErrRange}, {[]int{math.MinInt}, 0, api.ErrRange}, {[]int{1 << 41, 0}, 0, api.ErrRange}, {[]int{2, 2, 2, math.MinInt, 3}, 0, api.ErrRange},
		{slices.Repeat([]int{4, 6, 10}, 300), 60, api.OK}, {[]int{2, 3, 5, 7, 11, 13, 17, 19, 23, 29, 31}, 200560490130, api.OK},
		{[]int{2, 3, 5, 7, 11, 13, 17, 19, 23, 29, 31, 37}, 0, api.ErrRange},
	} {
		if got, e := span.Lcm(x.l...); got != x.n || e != x.e {
			t.Errorf("%d: Lcm = %d, %d, want %d, %d", i, got, e, x.n, x.e)
		}
	}
}

// R4: a list that is handed on as it is stays as it is.
func TestListsAreNotModified(t *testing.T) {
	l := []int{12, -18, 0, 30}
	span.Gcd(l...)
	if !slices.Equal(l, []int{12, -18, 0, 30}) {
		t.Error("Gcd modifies its list:", l)
	}
	l = []int{12, 18, 8, 1}
	span.Lcm(l...)
	if !slices.Equal(l, []int{12, 18, 8, 1}) {
		t.Error("Lcm modifies its list:", l)
	}
}

// R1 and R5: whatever the numbers are, no call panics, and all of them end.
func TestNoNumberPanics(t *testing.T) {
	wild := []int{math.MinInt, math.MinInt + 1, -far, -1 << 40, -2, -1, 0, 1, 2, 1<<40 - 1, 1 << 40, 1<<40 + 1, far, math.MaxInt - 1, math.MaxInt}
	var spans []span.Span
	for _, a := range wild {
		span.Gcd(a)
		span.Lcm(a)
		for _, b := range wild {
			span.Gcd(a, b)
			span.Lcm(a, b)
			spans = append(spans, span.Span{From: a, To: b})
			for _, c := range wild {
				span.Gcd(a, b, c)
				span.Lcm(a, b, c)
			}
		}
	}
	for _, s := range spans {
		s.Len()
		for _, t := range wild {
			s.Has(t)
		}
		for _, o := range spans {
			s.And(o)
		}
	}
}
