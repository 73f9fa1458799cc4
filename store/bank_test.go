package store_test

import (
	"bytes"
	"math/rand"
	"testing"

	"monocoque/wire"
)

// The chapter's terms: only a bank with the mark 165 is valid.
func TestMark(t *testing.T) {
	for mark := range 256 {
		first, second := bankOf(40, 1, []byte{1, 2}, 0), bankOf(40, 1, []byte{3}, 0)
		first[0] = byte(mark)
		s := opened(t, join(first, make([]byte, 20)))
		if mark == 165 {
			reads(t, s, 1, 2)
			reads(t, opened(t, join(first, second)), 1, 2)
			reads(t, opened(t, join(second, first)), 3)
			continue
		}
		lacks(t, s)
		lacks(t, opened(t, join(make([]byte, 20), first)))
		reads(t, opened(t, join(first, second)), 3)
		reads(t, opened(t, join(second, first)), 3)
	}
}

// The chapter's terms: the length is not greater than the room, though a sum lies behind it.
func TestLength(t *testing.T) {
	for _, cells := range []int{32, 64, 600} {
		room := cells/2 - 11
		for _, n := range []int{0, 1, room - 1, room, room + 1, room + 2, room + 4, room + 5, room + 11, room + 16, 255, 256, 1000, 32767, 32768, 65535} {
			whole := make([]byte, 1<<17)
			copy(whole, []byte{165, 0, 0, 0, 1, byte(n >> 8), byte(n)})
			copy(whole[7+n:], wire.PutWord(nil, wire.Sum(whole[1:7+n])))
			s := opened(t, whole[:cells])
			if n <= room {
				reads(t, s, make([]byte, n)...)
			} else {
				lacks(t, s)
			}
			s = opened(t, join(make([]byte, cells/2), whole[:cells/2]))
			if n <= room {
				reads(t, s, make([]byte, n)...)
			} else {
				lacks(t, s)
				writes(t, s, 4)
				reads(t, s, 4)
			}
		}
	}
}

// The chapter's terms: each bit of the number, the length, the block and the sum counts, and none of the other cells.
func TestSum(t *testing.T) {
	block := []byte{1, 2, 3}
	for _, old := range []bool{false, true} {
		other := make([]byte, 25)
		if old {
			other = bankOf(50, 6, []byte{9}, 0)
		}
		for bit := range 25 * 8 {
			b := bankOf(50, 7, block, 4)
			b[bit/8] ^= 1 << (bit % 8)
			for _, s := range [][]byte{join(b, other), join(other, b)} {
				switch x := opened(t, s); {
				case bit/8 >= 14:
					reads(t, x, block...)
				case old:
					reads(t, x, 9)
				default:
					lacks(t, x)
				}
			}
		}
	}
}

// The chapter's terms: which of two valid banks has the last block, whose number is followed by the next one.
func TestNewer(t *testing.T) {
	const half = 1 << 31
	for _, c := range []struct {
		first, second uint32
		last          int
	}{
		{0, 0, 0}, {1, 1, 0}, {half, half, 0}, {1<<32 - 1, 1<<32 - 1, 0},
		{1, 0, 0}, {0, 1, 1}, {5, 300, 1}, {300, 5, 0}, {1 << 24, 255, 0}, {255, 1 << 24, 1},
		{0, 1<<32 - 1, 0}, {1<<32 - 1, 0, 1}, {3, 1<<32 - 4, 0}, {1<<32 - 4, 3, 1},
		{0, half - 1, 1}, {half - 1, 0, 0}, {0, half, 0}, {half, 0, 0}, {0, half + 1, 0}, {half + 1, 0, 1},
		{100, half + 99, 1}, {half + 99, 100, 0}, {100, half + 100, 0}, {half + 100, 100, 0}, {100, half + 101, 0}, {half + 101, 100, 1},
		{1<<32 - 1, half - 2, 1}, {1<<32 - 1, half - 1, 0}, {half - 1, 1<<32 - 1, 0}, {1<<32 - 1, half, 0},
	} {
		first, second := bankOf(36, c.first, []byte{1, 1}, 8), bankOf(36, c.second, []byte{2}, 8)
		s := opened(t, join(first, second))
		next := bankOf(36, c.first+1, []byte{3, 3, 3}, 8)
		want := join(first, next)
		if c.last == 0 {
			reads(t, s, 1, 1)
		} else {
			reads(t, s, 2)
			next = bankOf(36, c.second+1, []byte{3, 3, 3}, 8)
			want = join(next, second)
		}
		writes(t, s, 3, 3, 3)
		holds(t, s, want)
		reads(t, s, 3, 3, 3)
		writes(t, s, 4)
		reads(t, s, 4)
	}
}

// The chapter's terms: a block goes into the bank without the last one, the first one if there is none.
func TestWhereto(t *testing.T) {
	broken := bankOf(36, 90, []byte{1}, 8)
	broken[9] ^= 1
	fine := bankOf(36, 70, []byte{2}, 8)
	for _, c := range []struct{ first, second, wantFirst, wantSecond []byte }{
		{make([]byte, 18), make([]byte, 18), bankOf(36, 1, []byte{5}, 0), make([]byte, 18)},
		{broken, broken, bankOf(36, 1, []byte{5}, 8), broken},
		{fine, broken, fine, bankOf(36, 71, []byte{5}, 8)},
		{broken, fine, bankOf(36, 71, []byte{5}, 8), fine},
		{fine, fine, fine, bankOf(36, 71, []byte{5}, 8)},
	} {
		s := opened(t, join(c.first, c.second))
		writes(t, s, 5)
		holds(t, s, join(c.wantFirst, c.wantSecond))
	}
}

// P35.2: Read goes by the cells as they are now, whatever is being written.
func TestReadWhileWriting(t *testing.T) {
	s := of(t, 32)
	for n := byte(1); n < 9; n++ {
		begins(t, s, n)
		for range 13 {
			if n == 1 {
				lacks(t, s)
			} else {
				reads(t, s, n-1)
			}
			steps(t, s, 1)
		}
		reads(t, s, n)
	}
}

// P35.4: power fails after any number of steps of any block, again and again, whatever the cells contained at first.
func TestPowerFailures(t *testing.T) {
	dice := rand.New(rand.NewSource(354))
	cut := 0
	for range 300 {
		cells := 32 + 2*dice.Intn(30)
		first := [][]byte{make([]byte, cells), some(dice, cells), bytes.Repeat([]byte{165}, cells),
			join(bankOf(cells, 1<<32-2, []byte{1}, 0), some(dice, cells/2)),
			join(bankOf(cells, 1<<32-1, []byte{1}, 5), bankOf(cells, 1<<32-2, []byte{2}, 5))}[dice.Intn(5)]
		s := opened(t, first)
		bank, _, block := last(first)
		for range 30 {
			next := some(dice, dice.Intn(s.Room()+1))
			if dice.Intn(3) == 0 {
				next = bytes.Repeat([]byte{165}, len(next))
			}
			begins(t, s, next...)
			n := dice.Intn(len(next) + 13)
			for range n {
				keeps(t, s, bank >= 0, block)
				steps(t, s, 1)
			}
			if n == len(next)+12 {
				bank, block = 0, next
			} else {
				cut++
			}
			keeps(t, s, bank >= 0, block)
			s = opened(t, s.Cells())
		}
	}
	if cut < 5000 {
		t.Error("power failed only so often:", cut)
	}
}
