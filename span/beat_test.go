package span_test

import (
	"math"
	"testing"

	"monocoque/api"
	"monocoque/span"
)

// nearBeats are all valid beats with small numbers.
func nearBeats() []span.Beat {
	var l []span.Beat
	for first := 0; first <= 5; first++ {
		for every := 1; every <= 6; every++ {
			for length := 1; length <= every; length++ {
				l = append(l, span.Beat{First: first, Every: every, Length: length})
			}
		}
	}
	return l
}

// inBeat tells by the definition, span by span, whether t is a tick of b, for small numbers.
func inBeat(b span.Beat, t int) bool {
	for begin := b.First; begin <= t; begin += b.Every {
		if t < begin+b.Length {
			return true
		}
	}
	return false
}

// P1.3: each bound of a valid beat, from both sides.
func TestCheck(t *testing.T) {
	for _, x := range []struct {
		b span.Beat
		e api.Errno
	}{
		{span.Beat{First: 2, Every: 10, Length: 3}, api.OK},
		{span.Beat{First: 0, Every: 1, Length: 1}, api.OK},
		{span.Beat{First: -1, Every: 1, Length: 1}, api.ErrRange},
		{span.Beat{First: math.MinInt, Every: 1, Length: 1}, api.ErrRange},
		{span.Beat{First: 1 << 40, Every: 1, Length: 1}, api.OK},
		{span.Beat{First: 1<<40 + 1, Every: 1, Length: 1}, api.ErrRange},
		{span.Beat{First: math.MaxInt, Every: 1, Length: 1}, api.ErrRange},
		{span.Beat{First: 0, Every: 0, Length: 0}, api.ErrRange},
		{span.Beat{First: 0, Every: 0, Length: 1}, api.ErrRange},
		{span.Beat{First: 0, Every: -3, Length: 1}, api.ErrRange},
		{span.Beat{First: 0, Every: -3, Length: -4}, api.ErrRange},
		{span.Beat{First: 0, Every: 1 << 40, Length: 1}, api.OK},
		{span.Beat{First: 0, Every: 1 << 40, Length: 1 << 40}, api.OK},
		{span.Beat{First: 0, Every: 1 << 40, Length: 1<<40 + 1}, api.ErrRange},
		{span.Beat{First: 0, Every: 1<<40 + 1, Length: 1}, api.ErrRange},
		{span.Beat{First: 0, Every: 1<<40 + 1, Length: 1<<40 + 1}, api.ErrRange},
		{span.Beat{First: 0, Every: math.MaxInt, Length: 1}, api.ErrRange},
		{span.Beat{First: 0, Every: 7, Length: 7}, api.OK},
		{span.Beat{First: 0, Every: 7, Length: 8}, api.ErrRange},
		{span.Beat{First: 0, Every: 7, Length: 0}, api.ErrRange},
		{span.Beat{First: 0, Every: 7, Length: -1}, api.ErrRange},
		{span.Beat{First: 0, Every: 7, Length: math.MinInt}, api.ErrRange},
		{span.Beat{First: 1 << 40, Every: 1 << 40, Length: 1 << 40}, api.OK},
		{span.Beat{}, api.ErrRange},
	} {
		if e := x.b.Check(); e != x.e {
			t.Errorf("%v.Check() = %d, want %d", x.b, e, x.e)
		}
	}
	if span.Most != 1<<40 {
		t.Error("Most is", span.Most)
	}
}

// P1.3: each small beat against its spans, one by one.
func TestAtAndNextAgainstTheirSpans(t *testing.T) {
	for _, b := range nearBeats() {
		for x := -8; x <= 40; x++ {
			if b.At(x) != inBeat(b, x) {
				t.Errorf("%v.At(%d) = %v", b, x, b.At(x))
			}
			next := b.First
			for next < x {
				next += b.Every
			}
			if got := b.Next(x); got != next {
				t.Errorf("%v.Next(%d) = %d, want %d", b, x, got, next)
			}
		}
	}
}

// P1.3: At takes any int.
func TestAtOfAnyInt(t *testing.T) {
	for _, x := range []struct {
		b  span.Beat
		t  int
		at bool
	}{
		{span.Beat{First: 1 << 40, Every: 1 << 40, Length: 1 << 40}, math.MinInt, false},
		{span.Beat{First: 1 << 40, Every: 1, Length: 1}, math.MinInt, false},
		{span.Beat{First: 5, Every: 3, Length: 3}, math.MinInt, false},
		{span.Beat{First: 0, Every: 1, Length: 1}, math.MinInt, false},
		{span.Beat{First: 0, Every: 1, Length: 1}, -1, false},
		{span.Beat{First: 0, Every: 1, Length: 1}, math.MaxInt, true},
		{span.Beat{First: 0, Every: 1 << 40, Length: 1 << 40}, math.MaxInt, true},
		{span.Beat{First: 0, Every: 1 << 40, Length: 1<<40 - 1}, math.MaxInt, false},
		{span.Beat{First: 1, Every: 1 << 40, Length: 1<<40 - 1}, math.MaxInt, true},
		{span.Beat{First: 1 << 40, Every: 1 << 40, Length: 1}, 1 << 40, true},
		{span.Beat{First: 1 << 40, Every: 1 << 40, Length: 1}, 1<<40 - 1, false},
		{span.Beat{First: 1 << 40, Every: 1 << 40, Length: 1}, 1<<40 + 1, false},
		{span.Beat{First: 1 << 40, Every: 1 << 40, Length: 1}, 1 << 41, true},
		{span.Beat{First: 3, Every: 1000, Length: 2}, 5000000000004, true},
		{span.Beat{First: 3, Every: 1000, Length: 2}, 5000000000005, false},
	} {
		if x.b.At(x.t) != x.at {
			t.Errorf("%v.At(%d) = %v", x.b, x.t, !x.at)
		}
	}
}

// P1.3: Next up to 2^60, and from the smallest int on.
func TestFarNext(t *testing.T) {
	for _, x := range []struct {
		b       span.Beat
		t, next int
	}{
		{span.Beat{First: 0, Every: 1, Length: 1}, far, far},
		{span.Beat{First: 0, Every: 1 << 40, Length: 1}, far, far},
		{span.Beat{First: 1, Every: 1 << 40, Length: 1}, far, far + 1},
		{span.Beat{First: 0, Every: 1 << 40, Length: 1}, far - 1, far},
		{span.Beat{First: 1<<40 - 1, Every: 1 << 40, Length: 1 << 40}, far, far + 1<<40 - 1},
		{span.Beat{First: 0, Every: 3, Length: 1}, far, far + 2},
		{span.Beat{First: 1 << 40, Every: 1 << 40, Length: 1}, 1 << 40, 1 << 40},
		{span.Beat{First: 1 << 40, Every: 1 << 40, Length: 1}, 1<<40 + 1, 1 << 41},
		{span.Beat{First: 1 << 40, Every: 1 << 40, Length: 1}, math.MinInt, 1 << 40},
		{span.Beat{First: 7, Every: 2, Length: 1}, math.MinInt, 7},
		{span.Beat{First: 7, Every: 2, Length: 1}, -far, 7},
		{span.Beat{First: 0, Every: 2, Length: 1}, math.MinInt, 0},
		{span.Beat{First: 0, Every: 2, Length: 1}, -1, 0},
	} {
		if got := x.b.Next(x.t); got != x.next {
			t.Errorf("%v.Next(%d) = %d, want %d", x.b, x.t, got, x.next)
		}
	}
}

// P1.4: the ticks of small spans, counted one by one; empty and reversed spans have none.
func TestBusyAgainstCounting(t *testing.T) {
	for _, b := range nearBeats() {
		for from := -4; from <= 16; from++ {
			n := 0
			for to := from - 3; to <= 24; to++ {
				if to > from && inBeat(b, to-1) {
					n++
				}
				if got := b.Busy(span.Span{From: from, To: to}); got != n {
					t.Errorf("%v.Busy of %d to %d = %d, want %d", b, from, to, got, n)
				}
			}
		}
	}
}

// P1.4: Busy at the far ends.
func TestFarBusy(t *testing.T) {
	all := span.Span{From: -far, To: far}
	for _, x := range []struct {
		b span.Beat
		s span.Span
		n int
	}{
		{span.Beat{First: 0, Every: 1, Length: 1}, all, far},
		{span.Beat{First: 1 << 40, Every: 1 << 40, Length: 1 << 40}, all, far - 1<<40},
		{span.Beat{First: 0, Every: 1 << 40, Length: 1<<40 - 1}, all, far - 1<<20},
		{span.Beat{First: 0, Every: 1 << 40, Length: 1}, all, 1 << 20},
		{span.Beat{First: 1, Every: 1 << 40, Length: 1}, all, 1 << 20},
		{span.Beat{First: 1, Every: 3, Length: 2}, all, (far - 1) / 3 * 2},
		{span.Beat{First: 0, Every: 3, Length: 2}, all, far/3*2 + 1},
		{span.Beat{First: 0, Every: 1, Length: 1}, span.Span{From: -far, To: 0}, 0},
		{span.Beat{First: 0, Every: 1, Length: 1}, span.Span{From: far, To: -far}, 0},
		{span.Beat{First: 0, Every: 1, Length: 1}, span.Span{From: far, To: far}, 0},
		{span.Beat{First: 0, Every: 1, Length: 1}, span.Span{From: far - 1, To: far}, 1},
		{span.Beat{First: 0, Every: 1 << 40, Length: 5}, span.Span{From: far - 1<<40 + 3, To: far}, 2},
		{span.Beat{First: 1 << 40, Every: 10, Length: 5}, span.Span{From: 1 << 40, To: 1<<40 + 12}, 7},
		{span.Beat{First: 1 << 40, Every: 10, Length: 5}, span.Span{From: 0, To: 1 << 40}, 0},
	} {
		if got := x.b.Busy(x.s); got != x.n {
			t.Errorf("%v.Busy(%v) = %d, want %d", x.b, x.s, got, x.n)
		}
	}
}

// P1.4: small beats that meet do so before the tick 5 + 6*6 at the latest.
func TestMeetAgainstTicks(t *testing.T) {
	for _, a := range nearBeats() {
		for _, b := range nearBeats() {
			want := false
			for x := 0; x <= 60 && !want; x++ {
				want = inBeat(a, x) && inBeat(b, x)
			}
			if got := span.Meet(a, b); got != want {
				t.Errorf("Meet(%v, %v) = %v", a, b, got)
			}
		}
	}
}

// P1.4: beats that meet late, or never, with large numbers.
func TestFarMeet(t *testing.T) {
	const most = 1 << 40
	for _, x := range []struct {
		a, b span.Beat
		meet bool
	}{
		{span.Beat{First: most, Every: most, Length: 1}, span.Beat{First: 0, Every: most, Length: 1}, true},
		{span.Beat{First: 1, Every: most, Length: 1}, span.Beat{First: 0, Every: most, Length: 1}, false},
		{span.Beat{First: most - 1, Every: most, Length: 1}, span.Beat{First: 0, Every: most, Length: most - 1}, false},
		{span.Beat{First: most - 1, Every: most, Length: 1}, span.Beat{First: 0, Every: most, Length: most}, true},
		{span.Beat{First: most - 1, Every: most, Length: 2}, span.Beat{First: 0, Every: most, Length: 1}, true},
		{span.Beat{First: most / 2, Every: most, Length: most / 2}, span.Beat{First: 0, Every: most, Length: most / 2}, false},
		{span.Beat{First: most / 2, Every: most, Length: most/2 + 1}, span.Beat{First: 0, Every: most, Length: most / 2}, true},
		{span.Beat{First: 0, Every: most, Length: 1}, span.Beat{First: 1 << 22, Every: most - 1, Length: 1}, true}, // first at 2^62
		{span.Beat{First: 0, Every: 2, Length: 1}, span.Beat{First: most - 1, Every: most, Length: 1}, false},
		{span.Beat{First: 0, Every: 2, Length: 1}, span.Beat{First: most, Every: most, Length: 1}, true},
		{span.Beat{First: 0, Every: 2, Length: 1}, span.Beat{First: most - 1, Every: most, Length: 2}, true},
		{span.Beat{First: most, Every: 6, Length: 3}, span.Beat{First: 0, Every: 9, Length: 1}, true}, // 2^40 leaves 1 by 3
		{span.Beat{First: most, Every: 6, Length: 2}, span.Beat{First: 0, Every: 9, Length: 1}, false},
		{span.Beat{First: 0, Every: most, Length: most}, span.Beat{First: most, Every: most, Length: 1}, true},
	} {
		if span.Meet(x.a, x.b) != x.meet || span.Meet(x.b, x.a) != x.meet {
			t.Errorf("Meet(%v, %v) = %v, the other way round %v", x.a, x.b, span.Meet(x.a, x.b), span.Meet(x.b, x.a))
		}
	}
}

// The chapter's example.
func TestExampleOfBeats(t *testing.T) {
	b := span.Beat{First: 2, Every: 10, Length: 3}
	for _, x := range []int{2, 3, 4, 12, 13, 14} {
		if !b.At(x) {
			t.Error("the beat lacks the tick", x)
		}
	}
	if b.Next(5) != 12 || !span.Meet(b, span.Beat{First: 5, Every: 4, Length: 1}) {
		t.Error(b.Next(5))
	}
}

// R1 and R5: of beats that are not valid nothing is promised, but that no call panics.
func TestNoBeatPanics(t *testing.T) {
	wild := []int{math.MinInt, -1 << 40, -1, 0, 1, 3, 1 << 40, 1<<40 + 1, math.MaxInt}
	var beats []span.Beat
	for _, first := range wild {
		for _, every := range wild {
			for _, length := range wild {
				beats = append(beats, span.Beat{First: first, Every: every, Length: length})
			}
		}
	}
	for _, b := range beats {
		b.Check()
		for _, from := range wild {
			b.At(from)
			b.Next(from)
			for _, to := range wild {
				b.Busy(span.Span{From: from, To: to})
			}
		}
		for _, o := range beats {
			span.Meet(b, o)
		}
	}
}
