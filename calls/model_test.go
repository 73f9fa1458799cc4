package calls_test

import (
	"math/rand"
	"testing"

	"monocoque/api"
	"monocoque/calls"
)

// slowDecode is what the chapter says of Decode.
func slowDecode(n int, r [16]uint32) (q calls.Request, e api.Errno) {
	if n < 0 || n > 27 {
		return q, api.ErrNone
	}
	c := table[n]
	q.Call = n
	if c.object {
		q.Object = int(r[0])
	}
	if c.at {
		q.At = r[1]
	}
	if c.words {
		q.Words = int(r[2])
	}
	if c.ticks && r[3] == all {
		q.Ticks = -1
	} else if c.ticks {
		q.Ticks = int(r[3])
	}
	if !valid(q) {
		return calls.Request{}, api.ErrRange
	}
	return q, api.OK
}

// some returns a number of a field, or one that is just too great, or any one.
func some(dice *rand.Rand, most int) uint32 {
	switch dice.Intn(6) {
	case 0:
		return dice.Uint32()
	case 1:
		return uint32(most + dice.Intn(3))
	case 2:
		return all - uint32(dice.Intn(3))
	}
	return uint32(dice.Intn(most + 1))
}

// P33.1 and P33.4: any registers, against the definition; the registers that a call does not use do not matter.
func TestDecodeAgainstTheDefinition(t *testing.T) {
	dice := rand.New(rand.NewSource(33))
	met := map[api.Errno]int{}
	for range 100000 {
		n := dice.Intn(30) - 1
		var r [16]uint32
		for i := range r {
			r[i] = dice.Uint32()
		}
		r[0], r[1], r[2], r[3] = some(dice, 15), some(dice, 27), some(dice, 32), some(dice, 1000)
		want, e := slowDecode(n, r)
		if e == api.OK {
			decodes(t, n, r, want)
			decodes(t, n, used(n, r), want)
		} else {
			refuses(t, n, r, e)
		}
		met[e]++
		if t.Failed() {
			t.FailNow()
		}
	}
	if met[api.OK] < 20000 || met[api.ErrRange] < 20000 || met[api.ErrNone] < 2000 {
		t.Error("nothing was tried:", met)
	}
}

// P33.4: a valid request is decoded from its registers unchanged; what is not valid changes no registers.
func TestThereAndBack(t *testing.T) {
	dice := rand.New(rand.NewSource(334))
	rights := 0
	for range 200000 {
		q := calls.Request{
			Call:   dice.Intn(30) - 1,
			Object: dice.Intn(18) - 1,
			At:     some(dice, 27),
			Words:  dice.Intn(35) - 1,
			Ticks:  dice.Intn(5) - 2,
		}
		if dice.Intn(4) == 0 {
			q.Ticks = all - dice.Intn(3)
		}
		if q.Call >= 0 && q.Call < 28 && dice.Intn(4) > 0 {
			q = only(q)
		}
		before := spoilt()
		r := calls.Encode(q, before)
		if !valid(q) {
			if r != before || calls.Price(q) != 0 {
				t.Fatalf("%v is not valid, but has the registers %v and the price %d", q, r, calls.Price(q))
			}
			continue
		}
		rights++
		decodes(t, q.Call, r, q)
		if p := calls.Price(q); p != table[q.Call].price+q.Words || p > calls.Most(q.Call) {
			t.Fatalf("Price(%v) = %d", q, p)
		}
		if t.Failed() {
			t.FailNow()
		}
	}
	if rights < 50000 {
		t.Error("only", rights, "requests were valid")
	}
}

// used returns spoilt registers with those of r that a call uses.
func used(n int, r [16]uint32) [16]uint32 {
	other, c := spoilt(), table[n]
	for i, uses := range []bool{c.object, c.at, c.words, c.ticks} {
		if uses {
			other[i] = r[i]
		}
	}
	return other
}

// only returns q without the fields that its call does not have.
func only(q calls.Request) calls.Request {
	c := table[q.Call]
	if !c.object {
		q.Object = 0
	}
	if !c.at {
		q.At = 0
	}
	if !c.words {
		q.Words = 0
	}
	if !c.ticks {
		q.Ticks = 0
	}
	return q
}
