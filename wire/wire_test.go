package wire_test

import (
	"bytes"
	"math"
	"strings"
	"testing"

	"monocoque/api"
	"monocoque/wire"
)

// slowNumber encodes by the definition: digits to the base 128, the first ones ahead.
func slowNumber(n uint64) []byte {
	b := []byte{byte(n % 128)}
	for n /= 128; n > 0; n /= 128 {
		b = append([]byte{byte(128 + n%128)}, b...)
	}
	return b
}

// slowSum computes the sum by the definition, bit by bit.
func slowSum(b []byte) uint32 {
	register := uint32(0xffffffff)
	for _, c := range b {
		register ^= uint32(c) << 24
		for range 8 {
			out := register >> 31
			register <<= 1
			if out == 1 {
				register ^= 0x04c11db7
			}
		}
	}
	return ^register
}

// mixed gives n bytes that look like no others, the same each time.
func mixed(n int) []byte {
	b := make([]byte, n)
	x := uint32(n)*2654435761 + 12345
	for i := range b {
		x = x*1664525 + 1013904223
		b[i] = byte(x >> 24)
	}
	return b
}

// numbers are those at which the length of an encoding changes, with their neighbours, and some others.
func numbers() []uint64 {
	l := []uint64{0, 1, 2, 5, 100, 300, 0x123456789abcdef, math.MaxInt64, math.MaxUint64 - 1, math.MaxUint64}
	for shift := 1; shift < 64; shift++ {
		l = append(l, 1<<shift-1, 1<<shift, 1<<shift+1)
	}
	return l
}

// P2.1: numbers.
func TestPutVar(t *testing.T) {
	for _, n := range numbers() {
		if got := wire.PutVar(nil, n); !bytes.Equal(got, slowNumber(n)) {
			t.Errorf("PutVar(%d) = % x, want % x", n, got, slowNumber(n))
		}
		if got := wire.PutVar([]byte{7, 200}, n); !bytes.Equal(got, append([]byte{7, 200}, slowNumber(n)...)) {
			t.Errorf("PutVar of %d behind two bytes = % x", n, got)
		}
	}
	for _, x := range []struct {
		n uint64
		s string
	}{
		{0, "\x00"}, {127, "\x7f"}, {128, "\x81\x00"}, {300, "\x82\x2c"}, {1<<14 - 1, "\xff\x7f"}, {1 << 14, "\x81\x80\x00"},
		{1<<63 - 1, "\xff\xff\xff\xff\xff\xff\xff\xff\x7f"}, {1 << 63, "\x81\x80\x80\x80\x80\x80\x80\x80\x80\x00"},
		{math.MaxUint64, "\x81\xff\xff\xff\xff\xff\xff\xff\xff\x7f"},
	} {
		if got := wire.PutVar([]byte{}, x.n); string(got) != x.s {
			t.Errorf("PutVar(%d) = % x, want % x", x.n, got, x.s)
		}
	}
}

// P2.1: texts and words.
func TestPutTextAndPutWord(t *testing.T) {
	for _, s := range []string{"", "a", "ab", "\x00", "\xff\xfe no text at all \x80", "ä€", strings.Repeat("x", 127), strings.Repeat("y", 128), strings.Repeat("z", 20000)} {
		want := append(append([]byte{9}, slowNumber(uint64(len(s)))...), s...)
		if got := wire.PutText([]byte{9}, s); !bytes.Equal(got, want) {
			t.Errorf("PutText of %d bytes: %d bytes", len(s), len(got))
		}
		if got := wire.PutText(nil, s); !bytes.Equal(got, want[1:]) {
			t.Errorf("PutText of %d bytes: %d bytes", len(s), len(got))
		}
	}
	for _, x := range []struct {
		w uint32
		s string
	}{{0, "\x00\x00\x00\x00"}, {258, "\x00\x00\x01\x02"}, {0x01020304, "\x01\x02\x03\x04"}, {0xfffefdfc, "\xff\xfe\xfd\xfc"}, {math.MaxUint32, "\xff\xff\xff\xff"}, {1 << 31, "\x80\x00\x00\x00"}} {
		if got := wire.PutWord(nil, x.w); string(got) != x.s {
			t.Errorf("PutWord(%d) = % x", x.w, got)
		}
		if got := wire.PutWord([]byte{1, 2, 3}, x.w); string(got) != "\x01\x02\x03"+x.s {
			t.Errorf("PutWord of %d behind three bytes = % x", x.w, got)
		}
	}
}

// P2.1: the sum.
func TestSum(t *testing.T) {
	for _, x := range []struct {
		s string
		n uint32
	}{{"", 0}, {"123456789", 0xfc891918}, {"\x00\x00\x00\x00", 0x38fb2284}, {"\xff\xff\xff\xff", 0xffffffff}} {
		if got := wire.Sum([]byte(x.s)); got != x.n {
			t.Errorf("Sum(%q) = %08x, want %08x", x.s, got, x.n)
		}
	}
	for i := range 256 {
		for _, b := range [][]byte{{byte(i)}, {byte(i), 0}, {0, byte(i)}, {255, byte(i), 17}} {
			if wire.Sum(b) != slowSum(b) {
				t.Errorf("Sum(% x) = %08x, want %08x", b, wire.Sum(b), slowSum(b))
			}
		}
	}
	for _, n := range []int{3, 4, 5, 8, 31, 64, 1000, 70000} {
		if b := mixed(n); wire.Sum(b) != slowSum(b) {
			t.Errorf("Sum of %d bytes = %08x, want %08x", n, wire.Sum(b), slowSum(b))
		}
	}
}

// P2.1: sealed bytes, and their opening.
func TestSealAndOpen(t *testing.T) {
	for _, b := range [][]byte{nil, {}, {0}, {255}, []byte("abc"), {0, 0, 0, 0}, mixed(4), mixed(5), mixed(1000)} {
		s := wire.Seal(b)
		n := slowSum(b)
		want := append(append([]byte{}, b...), byte(n>>24), byte(n>>16), byte(n>>8), byte(n))
		if !bytes.Equal(s, want) {
			t.Errorf("Seal(% x) = % x, want % x", b, s, want)
		}
		if got, e := wire.Open(want); !bytes.Equal(got, b) || e != api.OK {
			t.Errorf("Open(% x) = % x, %d", want, got, e)
		}
	}
}

// P2.1: the errors of Open, beside which there are no bytes.
func TestErrorsOfOpen(t *testing.T) {
	for _, x := range []struct {
		b []byte
		e api.Errno
	}{
		{nil, api.ErrShort}, {[]byte{0}, api.ErrShort}, {[]byte{0, 0, 0}, api.ErrShort}, {[]byte{0, 0, 0, 0}, api.OK},
		{[]byte{0, 0, 0, 1}, api.ErrSum}, {[]byte{1, 0, 0, 0}, api.ErrSum}, {[]byte{255, 255, 255, 255}, api.ErrSum},
		{[]byte{0, 0, 0, 0, 0}, api.ErrSum}, {mixed(100), api.ErrSum},
	} {
		if got, e := wire.Open(x.b); e != x.e || len(got) != 0 {
			t.Errorf("Open(% x) = % x, %d, want the error %d", x.b, got, e, x.e)
		}
	}
	s := wire.Seal([]byte("some bytes"))
	for n := range s {
		want := api.ErrSum
		if n < 4 {
			want = api.ErrShort
		}
		if got, e := wire.Open(s[:n]); e != want || len(got) != 0 {
			t.Errorf("Open of the first %d sealed bytes = % x, %d", n, got, e)
		}
	}
	if got, e := wire.Open(append(s, 0)); e != api.ErrSum || len(got) != 0 {
		t.Error("Open of one byte too many:", got, e)
	}
}

// P2.4: inverted bits within 32 consecutive ones are found: each single one, each two, and whole patterns.
func TestOpenRejectsInvertedBits(t *testing.T) {
	for _, size := range []int{0, 1, 3, 9} {
		s := wire.Seal(mixed(size))
		for first := range 8 * len(s) {
			for second := first; second < min(first+32, 8*len(s)); second++ {
				rejects(t, s, first, 1|1<<(second-first))
			}
			for _, pattern := range []uint64{0xffffffff, 0x80000001, 0xedb88321, 0x04c11db7, 0x82608edb, 0xaaaaaaab} {
				if first+32 <= 8*len(s) {
					rejects(t, s, first, pattern)
				}
			}
		}
	}
}

// rejects inverts the bits of s of the pattern, from the first on.
func rejects(t *testing.T, s []byte, first int, pattern uint64) {
	t.Helper()
	b := bytes.Clone(s)
	for i := range 32 {
		if pattern>>i&1 == 1 {
			b[(first+i)/8] ^= 128 >> ((first + i) % 8)
		}
	}
	if got, e := wire.Open(b); e != api.ErrSum || len(got) != 0 {
		t.Errorf("Open of %d bytes with the pattern %x inverted at %d = % x, %d", len(s), pattern, first, got, e)
	}
}

// R4: no call writes into the memory of its argument, or behind it, or keeps it for its result.
func TestResultsAreNewlyAllocated(t *testing.T) {
	sealed := wire.Seal([]byte("some bytes"))
	for name, call := range map[string]func(b []byte) []byte{
		"PutVar":       func(b []byte) []byte { return wire.PutVar(b, 5) },
		"PutVar, long": func(b []byte) []byte { return wire.PutVar(b, math.MaxUint64) },
		"PutText":      func(b []byte) []byte { return wire.PutText(b, "xyz") },
		"PutText of 0": func(b []byte) []byte { return wire.PutText(b, "") },
		"PutWord":      func(b []byte) []byte { return wire.PutWord(b, 77) },
		"Seal":         func(b []byte) []byte { return wire.Seal(b) },
		"Open":         func(b []byte) []byte { got, _ := wire.Open(b); return got },
	} {
		memory := append(bytes.Clone(sealed), bytes.Repeat([]byte{0xee}, 100)...)
		before := bytes.Clone(memory)
		b := memory[:len(sealed)]
		first, second := call(b), call(b)
		want := bytes.Clone(second)
		if !bytes.Equal(memory, before) {
			t.Errorf("%s writes into its argument: % x", name, memory)
		}
		for i := range first {
			first[i]++
		}
		if !bytes.Equal(memory, before) || !bytes.Equal(second, want) {
			t.Errorf("%s: a result shares memory", name)
		}
		for i := range memory {
			memory[i]++
		}
		if !bytes.Equal(second, want) {
			t.Errorf("%s: a result changes with the argument", name)
		}
	}
}

// R4: two results that follow the same one do not overwrite each other.
func TestResultsBehindOneResult(t *testing.T) {
	b := wire.PutVar(nil, 1)
	x, y := wire.PutWord(b, 0x01020304), wire.PutText(b, "ab")
	if string(x) != "\x01\x01\x02\x03\x04" || string(y) != "\x01\x02ab" || string(b) != "\x01" {
		t.Errorf("% x, % x, % x", b, x, y)
	}
}

// The chapter's examples.
func TestExamples(t *testing.T) {
	if got := wire.PutVar(nil, 300); !bytes.Equal(got, []byte{130, 44}) {
		t.Error(got)
	}
	if got := wire.PutText([]byte{9}, "ab"); !bytes.Equal(got, []byte{9, 2, 97, 98}) {
		t.Error(got)
	}
	if got := wire.PutWord(nil, 258); !bytes.Equal(got, []byte{0, 0, 1, 2}) {
		t.Error(got)
	}
}
