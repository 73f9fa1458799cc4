package store_test

import (
	"bytes"
	"math"
	"math/rand"
	"testing"

	"monocoque/api"
	"monocoque/store"
)

// The chapter's example.
func TestExample(t *testing.T) {
	s := of(t, 32)
	if n := s.Room(); n != 5 {
		t.Errorf("Room() = %d", n)
	}
	writes(t, s, 7, 8)
	reads(t, s, 7, 8)
	begins(t, s, 9)
	steps(t, s, 3)
	reads(t, s, 7, 8)
	steps(t, s, 10)
	reads(t, s, 9)
}

// numbers are numbers of cells at and beyond the ends of what may be.
func numbers() (l []int) {
	for n := -70; n <= 140; n++ {
		l = append(l, n)
	}
	for n := 65530; n <= 65545; n++ {
		l = append(l, n)
	}
	return append(l, math.MinInt, math.MinInt+32, -65536, 4096, 4097, 65472, 1<<17, 1<<32, 1<<32+32, 1<<32+65536, math.MaxInt-1, math.MaxInt)
}

func isNumber(n int) bool { return n >= 32 && n <= 65536 && n%2 == 0 }

// P35.1: any number of cells.
func TestNew(t *testing.T) {
	for _, n := range numbers() {
		s, e := store.New(n)
		if !isNumber(n) {
			if s != nil || e != api.ErrArg {
				t.Errorf("New(%d) = %v, %d, want ErrArg", n, s, e)
			}
			continue
		}
		if s == nil || e != api.OK {
			t.Fatalf("New(%d) = %v, %d", n, s, e)
		}
		holds(t, s, make([]byte, n))
		lacks(t, s)
		if s.Room() != n/2-11 || s.Busy() || s.Step() {
			t.Errorf("New(%d): Room() = %d, Busy() = %v", n, s.Room(), s.Busy())
		}
	}
}

// P35.1: any number of bytes, whatever they are.
func TestOpen(t *testing.T) {
	dice := rand.New(rand.NewSource(35))
	for _, n := range numbers() {
		if n < 0 || n > 1<<17 {
			continue
		}
		b := some(dice, n)
		s, e := store.Open(b)
		if !isNumber(n) {
			if s != nil || e != api.ErrArg {
				t.Errorf("Open of %d bytes = %v, %d, want ErrArg", n, s, e)
			}
			continue
		}
		if s == nil || e != api.OK {
			t.Fatalf("Open of %d bytes = %v, %d", n, s, e)
		}
		holds(t, s, b)
		if s.Room() != n/2-11 || s.Busy() || s.Step() {
			t.Errorf("Open of %d bytes: Room() = %d, Busy() = %v", n, s.Room(), s.Busy())
		}
	}
	if s, e := store.Open(nil); s != nil || e != api.ErrArg {
		t.Errorf("Open(nil) = %v, %d", s, e)
	}
}

// P35.2: blocks of any length that there is room for are written into one bank and the other one in turn, with numbers
// from 1 on; other cells are not written.
func TestWrite(t *testing.T) {
	dice := rand.New(rand.NewSource(36))
	for _, cells := range []int{32, 34, 64, 600, 65534, 65536} {
		empty := bytes.Repeat([]byte{9}, cells/2)
		s := opened(t, join(empty, empty))
		room := cells/2 - 11
		want := [2][]byte{empty, empty}
		for i, n := range []int{room, 0, 1, room - 1, room, 2, min(room, 255), min(room, 256), min(room, 257), room} {
			block := some(dice, n)
			writes(t, s, block...)
			bank := bankOf(cells, uint32(i+1), block, 9)
			used := 11 + n
			want[i%2] = append(bank[:used:used], want[i%2][used:]...)
			holds(t, s, join(want[0], want[1]))
			reads(t, s, block...)
			reads(t, opened(t, s.Cells()), block...)
		}
	}
}

// The chapter's terms: what is written, cell by cell, where each byte is another one before.
func TestSteps(t *testing.T) {
	for _, n := range []int{0, 1, 5, 300} {
		block := bytes.Repeat([]byte{77}, n)
		for bank := range 2 {
			cells := 2 * (n + 30)
			// The other bank has the last block, but for the first bank, which is written if there is none.
			number, other := uint32(1), bytes.Repeat([]byte{0}, cells/2)
			if bank == 1 {
				number, other = 0x01020304, bankOf(cells, 0x01020303, []byte{5}, 0)
			}
			goal := bankOf(cells, number, block, 3)
			before := bytes.Clone(goal)
			for i := range before[:n+11] {
				before[i] ^= 255
			}
			whole := func(b []byte) []byte {
				if bank == 0 {
					return join(b, other)
				}
				return join(other, b)
			}
			s := opened(t, whole(before))
			begins(t, s, block...)
			holds(t, s, whole(before))
			now := bytes.Clone(before)
			for i := range n + 12 {
				steps(t, s, 1)
				switch {
				case i == 0:
					now[0] = 0
				case i <= n+10:
					now[i] = goal[i]
				default:
					now[0] = 165
				}
				holds(t, s, whole(now))
				if s.Busy() != (i < n+11) {
					t.Fatalf("Busy() = %v after %d steps of %d", s.Busy(), i+1, n+12)
				}
			}
			holds(t, s, whole(goal))
			for range 3 {
				if s.Step() || s.Busy() {
					t.Error("a cell is written when none remains")
				}
			}
			holds(t, s, whole(goal))
			reads(t, s, block...)
		}
	}
}

// P35.2: a second block while one is being written, a block without room, and which of these errors is first.
func TestErrorsOfBegin(t *testing.T) {
	for _, cells := range []int{32, 34, 500, 65536} {
		s := of(t, cells)
		room := s.Room()
		long := [][]byte{make([]byte, room+1), make([]byte, room+2), make([]byte, cells), make([]byte, 65536), make([]byte, 65536+room), make([]byte, 1<<17+1)}
		refuseLong := func(want api.Errno) {
			t.Helper()
			for _, b := range long {
				refuses(t, s, want, s.Begin, b)
				refuses(t, s, want, s.Write, b)
			}
		}
		refuseLong(api.ErrRange)
		lacks(t, s)
		writes(t, s, 1, 2)
		refuseLong(api.ErrRange)
		reads(t, s, 1, 2)
		for n := range 15 {
			s = opened(t, s.Cells())
			begins(t, s, 3, 4)
			steps(t, s, n%14)
			for _, b := range [][]byte{nil, {}, {3, 4}, make([]byte, room)} {
				refuses(t, s, api.ErrState, s.Begin, b)
				refuses(t, s, api.ErrState, s.Write, b)
			}
			refuseLong(api.ErrState)
			reads(t, s, 1, 2)
		}
		for s.Step() {
		}
		refuseLong(api.ErrRange)
		reads(t, s, 3, 4)
		writes(t, s, make([]byte, room)...)
	}
}

// P35.3: a clone is equal and independent, at each moment of writing.
func TestClone(t *testing.T) {
	for n := range 16 {
		s := of(t, 40)
		writes(t, s, 1, 2, 3)
		begins(t, s, 4, 5)
		for range min(n, 14) {
			s.Step()
		}
		if n == 15 {
			begins(t, s, 6)
		}
		c := s.Clone()
		both(t, s, c, true)
		before, left := s.Cells(), s.Busy()
		for c.Step() {
		}
		writes(t, c, 9, 9, 9, 9)
		writes(t, c, 8)
		holds(t, s, before)
		if s.Busy() != left {
			t.Errorf("Busy() = %v after steps of the clone", s.Busy())
		}
		both(t, s, c, false)
		// What remains to be written is in the clone.
		c = s.Clone()
		for s.Step() {
			if !c.Step() {
				t.Error("a step lacks in the clone")
			}
			both(t, s, c, true)
		}
		if c.Step() {
			t.Error("the clone has a step more")
		}
		both(t, s, c, true)
	}
}

// P35.3: each cell counts, and each one that remains.
func TestSame(t *testing.T) {
	b := some(rand.New(rand.NewSource(3)), 50)
	s := opened(t, b)
	both(t, s, opened(t, b), true)
	for i := range b {
		c := bytes.Clone(b)
		c[i]++
		both(t, s, opened(t, c), false)
	}
	both(t, of(t, 32), of(t, 34), false)
	both(t, of(t, 32), of(t, 32), true)
	busy := func(steps int, block ...byte) *store.Store {
		x := of(t, 40)
		x.Begin(block)
		for range steps {
			x.Step()
		}
		return x
	}
	both(t, busy(0, 0), of(t, 40), false)
	both(t, busy(0, 1, 2), busy(0, 1, 2), true)
	both(t, busy(0, 1, 2), busy(0, 1, 3), false)
	both(t, busy(0, 0, 0), busy(0, 0, 0, 0), false)
	// The first steps change nothing here, but fewer cells remain.
	for n := range 4 {
		holds(t, busy(n, 1), make([]byte, 40))
		both(t, busy(n, 1), busy(n, 1), true)
		both(t, busy(n, 1), busy(n+1, 1), false)
		both(t, busy(n, 1), of(t, 40), false)
	}
	// All is written: how it came there makes no difference.
	whole := busy(13, 1)
	both(t, whole, opened(t, whole.Cells()), true)
	other := of(t, 40)
	writes(t, other, 1)
	both(t, whole, other, true)
}

// P35.3 and P35.5: nil stores.
func TestNil(t *testing.T) {
	var s *store.Store
	for _, b := range [][]byte{nil, {1}, make([]byte, 1<<17)} {
		if e := s.Begin(b); e != api.ErrArg {
			t.Errorf("Begin = %d", e)
		}
		if e := s.Write(b); e != api.ErrArg {
			t.Errorf("Write = %d", e)
		}
	}
	if b, e := s.Read(); b != nil || e != api.ErrArg {
		t.Errorf("Read() = %v, %d", b, e)
	}
	if s.Cells() != nil || s.Room() != 0 || s.Step() || s.Busy() || s.Clone() != nil {
		t.Error("a nil store has something")
	}
	if !s.Same(nil) {
		t.Error("two nil stores are not the same")
	}
	both(t, s, of(t, 32), false)
}

// P35.5: memory is shared neither with arguments nor with results.
func TestMemory(t *testing.T) {
	b := join(bankOf(40, 3, []byte{1, 2}, 7), bankOf(40, 2, []byte{3}, 7))
	kept := bytes.Clone(b)
	s := opened(t, b)
	if !bytes.Equal(b, kept) {
		t.Error("Open changes the bytes")
	}
	spoil(b)
	holds(t, s, kept)
	spoil(s.Cells())
	holds(t, s, kept)
	for range 2 {
		got, _ := s.Read()
		spoil(got)
		holds(t, s, kept)
		reads(t, s, 1, 2)
	}
	block := append(make([]byte, 0, 20), 4, 5, 6)
	s.Begin(block)
	if !bytes.Equal(block[:20], append([]byte{4, 5, 6}, make([]byte, 17)...)) {
		t.Errorf("Begin changes the block to % x", block[:20])
	}
	spoil(block)
	for s.Step() {
	}
	reads(t, s, 4, 5, 6)
	block = append(make([]byte, 0, 20), 7)
	s.Write(block)
	if !bytes.Equal(block[:20], append([]byte{7}, make([]byte, 19)...)) {
		t.Errorf("Write changes the block to % x", block[:20])
	}
	spoil(block)
	reads(t, s, 7)
	b = append(make([]byte, 0, 80), s.Cells()...)
	s = opened(t, b)
	writes(t, s, 8)
	if !bytes.Equal(b[40:80], make([]byte, 40)) {
		t.Error("Write changes the bytes that were opened")
	}
}
