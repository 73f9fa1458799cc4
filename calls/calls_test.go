package calls_test

import (
	"math"
	"testing"

	"monocoque/api"
	"monocoque/calls"
)

// The chapter's examples.
func TestExample(t *testing.T) {
	want := calls.Request{Call: calls.Take, Object: 3, Ticks: -1}
	decodes(t, 9, registers(3, 0, 0, all), want)
	if p := calls.Price(want); p != 3 {
		t.Errorf("the price is %d, want 3", p)
	}
	if p := calls.Most(16); p != 34 {
		t.Errorf("Most(16) = %d, want 34", p)
	}
}

// The numbers of the calls, which are those of the table.
func TestNumbers(t *testing.T) {
	for i, n := range numbers {
		if n != i {
			t.Errorf("%s has the number %d, want %d", table[i].word, n, i)
		}
	}
	if len(numbers) != 28 || len(table) != 28 {
		t.Error("there are other calls")
	}
}

// P33.1: each field of each call is decoded from its register, and no field that it does not have.
func TestDecode(t *testing.T) {
	for n, c := range table {
		r, want := spoilt(), full(n)
		if c.object {
			r[0] = 7
		}
		if c.at {
			r[1] = 11
		}
		if c.words {
			r[2] = 13
		}
		if c.ticks {
			r[3] = 17
		}
		decodes(t, n, r, want)
	}
}

// P33.1: there is no such call, whatever the registers are.
func TestDecodeNoCall(t *testing.T) {
	for _, n := range noCalls {
		refuses(t, n, [16]uint32{}, api.ErrNone)
		refuses(t, n, spoilt(), api.ErrNone)
		refuses(t, n, registers(1, 1, 1, 1), api.ErrNone)
	}
}

// P33.1: the edges of each field of each call that has it.
func TestDecodeEdges(t *testing.T) {
	for n, c := range table {
		base := calls.Encode(full(n), spoilt())
		for _, object := range []uint32{0, 1, 14, 15, 16, 17, 31, 255, 1 << 16, 1 << 31, 1<<31 + 3, all} {
			r, want := base, full(n)
			r[0] = object
			if want.Object = int(object); !c.object {
				want.Object = 0
			}
			if c.object && object > 15 {
				refuses(t, n, r, api.ErrRange)
			} else {
				decodes(t, n, r, want)
			}
		}
		for _, at := range []uint32{0, 1, 2, 26, 27, 28, 63, 65535, 65536, 1 << 31, all - 1, all} {
			r, want := base, full(n)
			r[1] = at
			if want.At = at; !c.at {
				want.At = 0
			}
			if n == calls.Fail && (at < 1 || at > 27) {
				refuses(t, n, r, api.ErrRange)
			} else {
				decodes(t, n, r, want)
			}
		}
		for _, words := range []uint32{0, 1, 31, 32, 33, 34, 64, 256, 1 << 31, 1<<31 + 5, all} {
			r, want := base, full(n)
			r[2] = words
			if want.Words = int(words); !c.words {
				want.Words = 0
			}
			if c.words && words > 32 {
				refuses(t, n, r, api.ErrRange)
			} else {
				decodes(t, n, r, want)
			}
		}
		for _, ticks := range []uint32{0, 1, 2, 1 << 20, 1<<31 - 1, 1 << 31, all - 2, all - 1, all} {
			r, want := base, full(n)
			r[3] = ticks
			if want.Ticks = int(ticks); ticks == all {
				want.Ticks = -1
			}
			if !c.ticks {
				want.Ticks = 0
			}
			decodes(t, n, r, want)
		}
	}
}

// P33.1: Encode sets the registers that the call uses, and no others.
func TestEncode(t *testing.T) {
	for n, c := range table {
		want := spoilt()
		if c.object {
			want[0] = 7
		}
		if c.at {
			want[1] = 11
		}
		if c.words {
			want[2] = 13
		}
		if c.ticks {
			want[3] = 17
		}
		r := spoilt()
		if got := calls.Encode(full(n), r); got != want {
			t.Errorf("Encode(%v) = %v, want %v", full(n), got, want)
		}
		if r != spoilt() {
			t.Error("Encode changed what it was passed")
		}
	}
	q := calls.Request{Call: calls.Await, Object: 15, Ticks: -1}
	if got, want := calls.Encode(q, [16]uint32{}), ([16]uint32{15, 0, 0, all}); got != want {
		t.Errorf("Encode(%v) = %v, want %v", q, got, want)
	}
	q = calls.Request{Call: calls.Send, At: all, Words: 32, Ticks: all - 1}
	if got, want := calls.Encode(q, [16]uint32{9}), ([16]uint32{0, all, 32, all - 1}); got != want {
		t.Errorf("Encode(%v) = %v, want %v", q, got, want)
	}
}

// wrong are requests that are not valid.
func wrong() []calls.Request {
	var l []calls.Request
	for _, n := range noCalls {
		l = append(l, calls.Request{Call: n}, calls.Request{Call: n, Object: 1, At: 1, Words: 1, Ticks: 1})
	}
	for n, c := range table {
		has := []bool{c.object, c.at, c.words, c.ticks}
		for field, is := range has {
			for _, by := range []int{1, -1, 5, 1 << 16} {
				if !is {
					l = append(l, spoil(full(n), field, by))
				}
			}
		}
		if c.object {
			for _, by := range []int{-8, 9, 10, 1 << 32, math.MinInt, math.MaxInt - 7} {
				l = append(l, spoil(full(n), 0, by))
			}
		}
		if c.words {
			for _, by := range []int{-14, 20, 21, 1 << 32, math.MinInt, math.MaxInt - 13} {
				l = append(l, spoil(full(n), 2, by))
			}
		}
		if c.ticks {
			for _, by := range []int{-19, -20, all - 17, all - 16, 1 << 40, math.MinInt, math.MaxInt - 17} {
				l = append(l, spoil(full(n), 3, by))
			}
		}
	}
	for _, at := range []uint32{0, 28, 29, 1 << 16, all} {
		l = append(l, calls.Request{Call: calls.Fail, At: at})
	}
	return l
}

// P33.1 and P33.2: a request that is not valid is not encoded, and has no price.
func TestNotValid(t *testing.T) {
	for _, q := range wrong() {
		if got := calls.Encode(q, spoilt()); got != spoilt() {
			t.Errorf("Encode(%v) = %v, want the same registers", q, got)
		}
		if p := calls.Price(q); p != 0 {
			t.Errorf("Price(%v) = %d, want 0", q, p)
		}
	}
}

// P33.2: the price of each call, with any number of words, and its greatest one.
func TestPrice(t *testing.T) {
	for n, c := range table {
		words, most := []int{0}, c.price
		if c.words {
			words, most = []int{0, 1, 2, 31, 32}, c.price+32
		}
		for _, w := range words {
			q := full(n)
			q.Words = w
			if p := calls.Price(q); p != c.price+w {
				t.Errorf("Price(%v) = %d, want %d", q, p, c.price+w)
			}
			if p := calls.Price(calls.Request{Call: n, At: q.At, Words: w}); p != c.price+w {
				t.Errorf("the price of %s with %d words is %d, want %d", c.word, w, p, c.price+w)
			}
		}
		if p := calls.Most(n); p != most {
			t.Errorf("Most(%d) = %d, want %d", n, p, most)
		}
	}
	for _, n := range noCalls {
		if p := calls.Most(n); p != 0 {
			t.Errorf("Most(%d) = %d, want 0", n, p)
		}
	}
}

// P33.2: the words of the calls, there and back.
func TestWord(t *testing.T) {
	for n, c := range table {
		if w := calls.Word(n); w != c.word {
			t.Errorf("Word(%d) = %q, want %q", n, w, c.word)
		}
		if got, ok := calls.Number(c.word); got != n || !ok {
			t.Errorf("Number(%q) = %d, %v, want %d", c.word, got, ok, n)
		}
	}
	for _, n := range noCalls {
		if w := calls.Word(n); w != "" {
			t.Errorf("Word(%d) = %q, want nothing", n, w)
		}
	}
	for _, w := range []string{"", " ", "Now", "NOW", "now ", " now", "no", "nowy", "norma", "normals", "take give", "0", "n\x00w", "\xff", "count", "none"} {
		if n, ok := calls.Number(w); n != 0 || ok {
			t.Errorf("Number(%q) = %d, %v, want none", w, n, ok)
		}
	}
}

// P33.3: Back sets three registers and no others.
func TestBack(t *testing.T) {
	for _, c := range []struct {
		a    calls.Answer
		want [3]uint32
	}{
		{calls.Answer{}, [3]uint32{0, 0, 0}},
		{calls.Answer{E: api.ErrLate, Value: 5, Words: 7}, [3]uint32{24, 5, 7}},
		{calls.Answer{E: api.ErrFlow, Value: all, Words: 32}, [3]uint32{27, all, 32}},
		{calls.Answer{E: -1, Value: 1 << 31, Words: -1}, [3]uint32{all, 1 << 31, all}},
		{calls.Answer{E: 1<<32 + 3, Words: 1<<32 + 4}, [3]uint32{3, 0, 4}},
		{calls.Answer{E: math.MinInt, Words: math.MaxInt}, [3]uint32{0, 0, all}},
	} {
		want := spoilt()
		copy(want[:], c.want[:])
		r := spoilt()
		if got := calls.Back(r, c.a); got != want {
			t.Errorf("Back(%v) = %v, want %v", c.a, got, want)
		}
		if r != spoilt() {
			t.Error("Back changed what it was passed")
		}
	}
}
