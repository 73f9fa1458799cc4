package store_test

import (
	"bytes"
	"math/rand"
	"slices"
	"testing"

	"monocoque/api"
	"monocoque/store"
	"monocoque/wire"
)

// of returns a store with so many cells, which there may be.
func of(t *testing.T, cells int) *store.Store {
	t.Helper()
	s, e := store.New(cells)
	if e != api.OK || s == nil {
		t.Fatalf("New(%d) = %v, %d", cells, s, e)
	}
	return s
}

// opened returns a store whose cells are these.
func opened(t *testing.T, cells []byte) *store.Store {
	t.Helper()
	s, e := store.Open(cells)
	if e != api.OK || s == nil {
		t.Fatalf("Open of %d bytes = %v, %d", len(cells), s, e)
	}
	return s
}

// bankOf returns the cells of a bank with a block: the others hold the byte rest.
func bankOf(cells int, number uint32, block []byte, rest byte) []byte {
	n := len(block)
	b := []byte{byte(number >> 24), byte(number >> 16), byte(number >> 8), byte(number), byte(n >> 8), byte(n)}
	b = append(b, block...)
	sum := wire.Sum(b)
	b = append(b, byte(sum>>24), byte(sum>>16), byte(sum>>8), byte(sum))
	b = append([]byte{165}, b...)
	return append(b, bytes.Repeat([]byte{rest}, cells/2-len(b))...)
}

// last returns the last block by the definition, with its number, and its bank, or -1 for that.
func last(cells []byte) (bank int, number uint32, block []byte) {
	half := len(cells) / 2
	bank = -1
	for i, b := range [][]byte{cells[:half], cells[half:]} {
		n := int(b[5])<<8 + int(b[6])
		if b[0] != 165 || n > half-11 {
			continue
		}
		s := wire.Sum(b[1 : 7+n])
		if !bytes.Equal(b[7+n:11+n], []byte{byte(s >> 24), byte(s >> 16), byte(s >> 8), byte(s)}) {
			continue
		}
		m := uint32(b[1])<<24 + uint32(b[2])<<16 + uint32(b[3])<<8 + uint32(b[4])
		if d := (int64(m) - int64(number) + 1<<32) % (1 << 32); bank < 0 || d >= 1 && d <= 1<<31-1 {
			bank, number, block = i, m, b[7:7+n]
		}
	}
	return bank, number, block
}

// reads tells whether this is the last block.
func reads(t *testing.T, s *store.Store, want ...byte) {
	t.Helper()
	if got, e := s.Read(); e != api.OK || !bytes.Equal(got, want) {
		t.Fatalf("Read() = % x, %d, want % x", got, e, want)
	}
}

// lacks tells that there is no last block.
func lacks(t *testing.T, s *store.Store) {
	t.Helper()
	if got, e := s.Read(); got != nil || e != api.ErrNone {
		t.Fatalf("Read() = % x, %d, want ErrNone", got, e)
	}
}

// begins begins to write a block.
func begins(t *testing.T, s *store.Store, block ...byte) {
	t.Helper()
	before := s.Cells()
	if e := s.Begin(block); e != api.OK || !s.Busy() {
		t.Fatalf("Begin(% x) = %d, Busy() = %v", block, e, s.Busy())
	}
	holds(t, s, before)
}

// writes writes a block, all of it.
func writes(t *testing.T, s *store.Store, block ...byte) {
	t.Helper()
	if e := s.Write(block); e != api.OK || s.Busy() {
		t.Fatalf("Write of %d bytes = %d, Busy() = %v", len(block), e, s.Busy())
	}
}

// steps writes so many cells, which there are.
func steps(t *testing.T, s *store.Store, n int) {
	t.Helper()
	for range n {
		if !s.Busy() || !s.Step() {
			t.Fatal("no cell remains")
		}
	}
}

// holds tells whether these are the contents of the cells.
func holds(t *testing.T, s *store.Store, want []byte) {
	t.Helper()
	if got := s.Cells(); !bytes.Equal(got, want) {
		t.Fatalf("the cells are % x, want % x", got, want)
	}
}

// refuses tells whether a call is an error that changes nothing.
func refuses(t *testing.T, s *store.Store, want api.Errno, call func([]byte) api.Errno, block []byte) {
	t.Helper()
	before := s.Clone()
	if e := call(block); e != want || !s.Same(before) {
		t.Errorf("the error for %d bytes is %d, want %d", len(block), e, want)
	}
}

// some returns some bytes.
func some(dice *rand.Rand, n int) []byte {
	b := make([]byte, n)
	for i := range b {
		b[i] = byte(dice.Intn(256))
	}
	return b
}

// both tells whether two stores are the same, or not, whichever is asked.
func both(t *testing.T, a, b *store.Store, want bool) {
	t.Helper()
	if a.Same(b) != want || b.Same(a) != want {
		t.Errorf("Same = %v, %v, want %v", a.Same(b), b.Same(a), want)
	}
}

// spoil overwrites a list with all memory that belongs to it.
func spoil(l []byte) {
	for i := range l[:cap(l)] {
		l[:cap(l)][i] ^= 255
	}
}

// join returns the cells of two banks.
func join(first, second []byte) []byte { return slices.Concat(first, second) }
