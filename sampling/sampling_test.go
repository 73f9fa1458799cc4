package sampling_test

import (
	"math"
	"math/rand"
	"slices"
	"testing"

	"monocoque/api"
	"monocoque/sampling"
)

const last = 1 << 40 // the last tick

// noTicks are numbers that are no ticks.
var noTicks = []int{math.MinInt, math.MinInt + 1, -last, -64, -1, last + 1, last + 1<<20, 1 << 41, math.MaxInt - 1, math.MaxInt}

// of returns a port, whose numbers may be.
func of(t *testing.T, words, refresh int) *sampling.Port {
	t.Helper()
	p, e := sampling.New(words, refresh)
	if e != api.OK || p == nil {
		t.Fatalf("New(%d, %d) = %v, %d", words, refresh, p, e)
	}
	return p
}

// written returns a port that has a message.
func written(t *testing.T, words, refresh, now int, m ...uint32) *sampling.Port {
	t.Helper()
	p := of(t, words, refresh)
	writes(t, p, now, m...)
	return p
}

// writes writes a message, which the port has from then on.
func writes(t *testing.T, p *sampling.Port, now int, m ...uint32) {
	t.Helper()
	if e := p.Write(now, m); e != api.OK {
		t.Fatalf("Write(%d, %v) = %d", now, m, e)
	}
	reads(t, p, now, true, m...)
	stamped(t, p, now)
}

// refuses writes what is an error that changes nothing.
func refuses(t *testing.T, p *sampling.Port, want api.Errno, now int, m ...uint32) {
	t.Helper()
	before := p.Clone()
	if e := p.Write(now, m); e != want || !p.Same(before) {
		t.Errorf("Write(%d, %v) = %d, want %d", now, m, e, want)
	}
}

// reads reads a message that is valid or not.
func reads(t *testing.T, p *sampling.Port, now int, valid bool, want ...uint32) {
	t.Helper()
	if m, is, e := p.Read(now); e != api.OK || is != valid || !slices.Equal(m, want) {
		t.Errorf("Read(%d) = %v, %v, %d, want %v, %v", now, m, is, e, want, valid)
	}
}

// fails reads what is an error.
func fails(t *testing.T, p *sampling.Port, want api.Errno, now int) {
	t.Helper()
	if m, is, e := p.Read(now); m != nil || is || e != want {
		t.Errorf("Read(%d) = %v, %v, %d, want %d", now, m, is, e, want)
	}
}

// stamped tells whether the message is of this tick.
func stamped(t *testing.T, p *sampling.Port, want int) {
	t.Helper()
	if now, is := p.Stamp(); now != want || !is {
		t.Errorf("Stamp() = %d, %v, want %d", now, is, want)
	}
}

// empty tells whether a port has no message, whenever one asks.
func empty(t *testing.T, p *sampling.Port) {
	t.Helper()
	for _, now := range []int{0, 1, 100, last} {
		fails(t, p, api.ErrNone, now)
	}
	if now, is := p.Stamp(); now != 0 || is {
		t.Errorf("Stamp() = %d, %v, want none", now, is)
	}
}

// sized tells whether a port is made for these numbers.
func sized(t *testing.T, p *sampling.Port, words, refresh int) {
	t.Helper()
	if p.Words() != words || p.Refresh() != refresh {
		t.Errorf("Words() = %d, Refresh() = %d, want %d, %d", p.Words(), p.Refresh(), words, refresh)
	}
}

// spoil overwrites a list with all memory that belongs to it.
func spoil[T any](l []T) {
	clear(l[:cap(l)])
}

// The chapter's example.
func TestExample(t *testing.T) {
	p := written(t, 2, 5, 10, 7, 8)
	reads(t, p, 15, true, 7, 8)
	reads(t, p, 16, false, 7, 8)
	writes(t, p, 17, 9)
	reads(t, p, 17, true, 9)
}

// P26.1: each pair of numbers at and beyond the ends of what may be.
func TestNew(t *testing.T) {
	words := []int{math.MinInt, -32, -1, 0, 1, 2, 31, 32, 33, 64, 1 << 20, 1 << 32, 1<<32 + 1, math.MaxInt}
	refreshes := []int{math.MinInt, -1 << 20, -1, 0, 1, 5, 1<<20 - 1, 1 << 20, 1<<20 + 1, 1 << 32, 1<<32 + 1, last, math.MaxInt}
	for _, w := range words {
		for _, r := range refreshes {
			p, e := sampling.New(w, r)
			if w < 1 || w > 32 || r < 0 || r > 1<<20 {
				if p != nil || e != api.ErrArg {
					t.Errorf("New(%d, %d) = %v, %d, want ErrArg", w, r, p, e)
				}
				continue
			}
			if p == nil || e != api.OK {
				t.Fatalf("New(%d, %d) = %v, %d", w, r, p, e)
			}
			sized(t, p, w, r)
			empty(t, p)
		}
	}
}

// P26.1: two calls make two ports; their numbers stay what they are.
func TestNewIsItsOwn(t *testing.T) {
	a, b := of(t, 2, 3), of(t, 2, 3)
	writes(t, a, 4, 5, 6)
	empty(t, b)
	b.Clear()
	reads(t, a, 4, true, 5, 6)
	a.Clear()
	sized(t, a, 2, 3)
	sized(t, b, 2, 3)
}

// P26.2: a message may have so many words and no more, whether there is one already or not.
func TestWords(t *testing.T) {
	for words := 1; words <= 32; words++ {
		p := of(t, words, 9)
		for range 2 {
			for _, n := range []int{words + 1, words + 2, 33, 64, 1 << 16} {
				refuses(t, p, api.ErrRange, 7, make([]uint32, n)...)
				refuses(t, p, api.ErrRange, 8, make([]uint32, n)...)
			}
			for n := words; n >= 0; n-- {
				writes(t, p, 7, slices.Repeat([]uint32{math.MaxUint32}, n)...)
			}
			writes(t, p, 7, slices.Repeat([]uint32{1}, words)...)
		}
		p.Clear()
		refuses(t, p, api.ErrRange, 7, make([]uint32, words+1)...)
		empty(t, p)
	}
}

// P26.2: an empty message is one.
func TestEmptyMessage(t *testing.T) {
	for _, m := range [][]uint32{nil, {}} {
		p := of(t, 1, 2)
		if e := p.Write(0, m); e != api.OK {
			t.Error(e)
		}
		reads(t, p, 0, true)
		reads(t, p, 3, false)
		stamped(t, p, 0)
		writes(t, p, 1, 4)
		writes(t, p, 2)
		p.Clear()
		empty(t, p)
	}
}

// P26.2: the last message counts, whichever stamps the messages have.
func TestTheLastOneCounts(t *testing.T) {
	p := of(t, 3, 4)
	for i, now := range []int{5, 5, 9, 2, 0, last, 7, last - 1, 0} {
		m := slices.Repeat([]uint32{uint32(i)}, i%4)
		writes(t, p, now, m...)
		reads(t, p, last, now >= last-4, m...)
		reads(t, p, 0, true, m...)
	}
}

// P26.2: which numbers are ticks, and that such an error is listed first.
func TestTicks(t *testing.T) {
	for _, p := range []*sampling.Port{of(t, 2, 3), written(t, 2, 3, 8, 6, 7), written(t, 2, 3, last)} {
		for _, now := range noTicks {
			refuses(t, p, api.ErrArg, now)
			refuses(t, p, api.ErrArg, now, 1, 2)
			refuses(t, p, api.ErrArg, now, 1, 2, 3)
			fails(t, p, api.ErrArg, now)
		}
		for _, now := range []int{0, 1, 1 << 20, 1 << 32, 1 << 39, last - 1, last} {
			refuses(t, p, api.ErrRange, now, 1, 2, 3)
			writes(t, p, now, 1, 2)
		}
	}
}

// P26.2: a message is valid up to its stamp plus the refresh, and ahead of its stamp.
func TestValid(t *testing.T) {
	for _, refresh := range []int{0, 1, 2, 5, 1<<20 - 1, 1 << 20} {
		for _, stamp := range []int{0, 1, 10, 1 << 20, 1 << 32, last - 1<<20 - 1, last - 1<<20, last - 1, last} {
			p := written(t, 2, refresh, stamp, 3, 4)
			for _, now := range []int{0, stamp - 1, stamp, stamp + refresh - 1, stamp + refresh, stamp + refresh + 1, stamp + 2*refresh + 2, last} {
				if now >= 0 && now <= last {
					reads(t, p, now, now <= stamp || now-stamp <= refresh, 3, 4)
				}
			}
			stamped(t, p, stamp) // Read changes nothing
			if !p.Same(written(t, 2, refresh, stamp, 3, 4)) {
				t.Error("Read changes something")
			}
		}
	}
}

// P26.2: Clear removes the message with its stamp.
func TestClear(t *testing.T) {
	p := of(t, 2, 5)
	p.Clear()
	empty(t, p)
	for range 2 {
		writes(t, p, 9, 1, 2)
		p.Clear()
		empty(t, p)
		if !p.Same(of(t, 2, 5)) {
			t.Error("something is left")
		}
		p.Clear()
		empty(t, p)
	}
}

// P26.3: what a port and its clone become is up to each of them.
func TestClone(t *testing.T) {
	p := written(t, 2, 5, 9, 1, 2)
	c := p.Clone()
	if c == p || !c.Same(p) || !p.Same(c) {
		t.Fatal("a clone is not the same")
	}
	sized(t, c, 2, 5)
	writes(t, p, 10, 3)
	reads(t, c, 9, true, 1, 2)
	stamped(t, c, 9)
	c.Clear()
	empty(t, c)
	reads(t, p, 10, true, 3)
	d := c.Clone()
	empty(t, d)
	sized(t, d, 2, 5)
	writes(t, d, 4, 8)
	empty(t, c)
	refuses(t, d, api.ErrRange, 4, 1, 2, 3)
	p.Clear()
	reads(t, d, 4, true, 8)
}

// P26.3: Same looks at words, refresh, message and stamp.
func TestSame(t *testing.T) {
	all := func() []*sampling.Port {
		return []*sampling.Port{
			of(t, 1, 0), of(t, 2, 0), of(t, 2, 1), of(t, 1, 1), of(t, 32, 1<<20), of(t, 32, 0),
			written(t, 2, 1, 0), written(t, 2, 1, 1), written(t, 2, 0, 0), written(t, 1, 1, 0),
			written(t, 2, 1, 0, 0), written(t, 2, 1, 1, 0), written(t, 2, 1, 0, 1), written(t, 2, 1, 1, 1),
			written(t, 2, 1, 0, 0, 0), written(t, 2, 1, 0, 0, 1), written(t, 2, 1, 0, 1, 0), written(t, 3, 1, 0, 0, 0),
			written(t, 2, 1, last, 0), written(t, 2, 1, last-1, 0), written(t, 2, 1, 1<<32, 0),
		}
	}
	for i, a := range all() {
		for j, b := range all() {
			if a.Same(b) != (i == j) {
				t.Errorf("Same of %d and %d: %v", i, j, a.Same(b))
			}
		}
	}
}

// P26.3: how a port came to be what it is makes no difference.
func TestSameWhateverWasBefore(t *testing.T) {
	x := written(t, 2, 5, 20, 8, 9)
	x.Clear()
	x.Read(3)
	if !x.Same(of(t, 2, 5)) || !of(t, 2, 5).Same(x) {
		t.Error("it has no message")
	}
	writes(t, x, 7, 1, 2)
	writes(t, x, 3)
	x.Write(-1, nil)
	x.Write(4, []uint32{1, 2, 3})
	if !x.Same(written(t, 2, 5, 3)) || !x.Same(x) {
		t.Error("it has an empty message")
	}
}

// P26.4: messages that were passed and those that were returned are the caller's.
func TestMessagesAreTheCallers(t *testing.T) {
	p := of(t, 3, 5)
	m := []uint32{5, 6, 7}
	if e := p.Write(1, m[:2]); e != api.OK || !slices.Equal(m, []uint32{5, 6, 7}) {
		t.Error("what was passed changes:", m)
	}
	spoil(m)
	reads(t, p, 1, true, 5, 6)
	c := p.Clone()
	a, _, _ := p.Read(1)
	b, _, _ := p.Read(1)
	spoil(a)
	reads(t, p, 1, true, 5, 6)
	reads(t, c, 1, true, 5, 6)
	writes(t, p, 2, 8, 9, 10)
	p.Clear()
	if !slices.Equal(b, []uint32{5, 6}) {
		t.Error("what was read changes:", b)
	}
	d, _, _ := c.Read(1)
	spoil(d)
	reads(t, c, 1, true, 5, 6)
	reads(t, c.Clone(), 1, true, 5, 6)
}

// P26.3 and P26.4: no port.
func TestNil(t *testing.T) {
	var p *sampling.Port
	for _, now := range append(noTicks, 0, 1, last) {
		for _, m := range [][]uint32{nil, {}, {1}, make([]uint32, 40)} {
			if e := p.Write(now, m); e != api.ErrArg {
				t.Errorf("Write(%d, %v) = %d", now, m, e)
			}
		}
		fails(t, p, api.ErrArg, now)
	}
	if now, is := p.Stamp(); now != 0 || is {
		t.Errorf("Stamp() = %d, %v", now, is)
	}
	sized(t, p, 0, 0)
	p.Clear()
	if p.Clone() != nil || !p.Same(nil) {
		t.Error("Clone or Same")
	}
	for _, x := range []*sampling.Port{of(t, 1, 0), written(t, 1, 0, 0)} {
		if p.Same(x) || x.Same(p) || x.Same(nil) {
			t.Error("a nil port is not equal to another")
		}
	}
}

// P26.1 to P26.4: any calls in any order, against the definition.
func TestAgainstTheDefinition(t *testing.T) {
	dice := rand.New(rand.NewSource(26))
	valid := [2]int{}
	for range 500 {
		words, refresh := 1+dice.Intn(4), dice.Intn(9)
		p, is, message, stamp := of(t, words, refresh), false, []uint32(nil), 0
		for range 100 {
			now := dice.Intn(22) - 1
			switch dice.Intn(9) {
			case 0:
				p.Clear()
				is, message, stamp = false, nil, 0
			case 1:
				p = p.Clone()
			case 2, 3:
				m := make([]uint32, dice.Intn(words+2))
				for i := range m {
					m[i] = dice.Uint32()
				}
				switch {
				case now < 0:
					refuses(t, p, api.ErrArg, now, m...)
				case len(m) > words:
					refuses(t, p, api.ErrRange, now, m...)
				default:
					writes(t, p, now, m...)
					is, message, stamp = true, m, now
				}
			default:
				switch {
				case now < 0:
					fails(t, p, api.ErrArg, now)
				case !is:
					fails(t, p, api.ErrNone, now)
				default:
					age := max(now-stamp, 0)
					reads(t, p, now, age <= refresh, message...)
					valid[min(age/(refresh+1), 1)]++
				}
			}
			same := of(t, words, refresh)
			if is {
				writes(t, same, stamp, message...)
			}
			if !p.Same(same) || !same.Same(p) {
				t.Error("one that was made anew is not the same")
			}
			if t.Failed() {
				t.FailNow()
			}
		}
	}
	if min(valid[0], valid[1]) < 1000 {
		t.Error("nothing was tried:", valid)
	}
}
