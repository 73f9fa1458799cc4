package pack_test

import (
	"bytes"
	"maps"
	"math"
	"math/rand"
	"slices"
	"strings"
	"testing"

	"monocoque/api"
	"monocoque/book"
	"monocoque/pack"
	"monocoque/wire"
)

// P8.2: the errors of Open come first, whatever the contents are.
func TestErrorsOfOpen(t *testing.T) {
	b, _ := pack.Encode(full())
	for n := range 4 {
		fails(t, b[:n], api.ErrShort)
	}
	fails(t, nil, api.ErrShort)
	for n := 4; n < len(b); n++ {
		fails(t, b[:n], api.ErrSum)
	}
	fails(t, append(bytes.Clone(b), 0), api.ErrSum)
	for i := range b {
		c := bytes.Clone(b)
		c[i] ^= 1 << (i % 8)
		fails(t, c, api.ErrSum)
	}
	for _, s := range []string{"\x01\x01M\x00\x00\x01\x00\x00\x00", "\x02\x01m\x00\x00\x01\x00\x00\x00", "\x80", "\x01"} {
		fails(t, append([]byte(s), 9, 9, 9, 9), api.ErrSum)
	}
}

// P8.2: no contents, or contents that end too early, wherever that is.
func TestShortContents(t *testing.T) {
	for _, m := range []book.Module{full(), {Name: "m"}, random(rand.New(rand.NewSource(2)), 3)} {
		b := slowContents(m)
		for n := range b {
			fails(t, wire.Seal(b[:n]), api.ErrShort, n)
		}
	}
}

// P8.2: bytes behind the module, right or not.
func TestBytesLeft(t *testing.T) {
	for _, m := range []book.Module{full(), {Name: "m"}, {}, {Name: "m", Mode: 8}, {Name: "M", Links: make([]book.Link, 256)}} {
		for _, rest := range [][]byte{{0}, {1}, {0x80}, {255}, {0, 0, 0, 0}, bytes.Repeat([]byte{0x80}, 20), slowContents(full())} {
			fails(t, wire.Seal(append(slowContents(m), rest...)), api.ErrForm, m, rest)
		}
	}
}

// P8.2: the format.
func TestFormat(t *testing.T) {
	rest := slowContents(book.Module{Name: "m"})[1:]
	for _, n := range []uint64{0, 2, 3, 100, 127, 128, 129, 255, 256, 257, 1 << 32, 1<<32 + 1, 1 << 40, 1<<40 + 1} {
		for _, rest := range [][]byte{rest, {}, {0x80}, {0x80, 0}, {31}} {
			fails(t, wire.Seal(append(slowNumber(n), rest...)), api.ErrForm, "format", n)
		}
	}
	for _, rest := range [][]byte{rest, {}, {0x80, 0}} {
		fails(t, wire.Seal(append(slowNumber(1<<40+2), rest...)), api.ErrRange)
		fails(t, wire.Seal(append(slowNumber(math.MaxUint64), rest...)), api.ErrRange)
		fails(t, wire.Seal(append([]byte{0x80, 1}, rest...)), api.ErrForm)
	}
	fails(t, wire.Seal([]byte{0x81}), api.ErrShort)
	fails(t, wire.Seal([]byte{0x80}), api.ErrShort)
	fails(t, wire.Seal(nil), api.ErrShort)
	fails(t, wire.Seal([]byte{1}), api.ErrShort)
}

// substitutes are encodings that stand where another one was, by sorts, with the errors that reading them has.
// OK stands for what can be read, right or not.
func substitutes() map[string]map[string]api.Errno {
	number := func(n uint64) string { return string(slowNumber(n)) }
	form := map[string]api.Errno{
		"\x80\x00": api.ErrForm, "\x80\x01": api.ErrForm, "\x80\x80\x01": api.ErrForm, strings.Repeat("\x80", 10): api.ErrForm,
		"\x82\x80\x80\x80\x80\x80\x80\x80\x80\x00": api.ErrForm, strings.Repeat("\xff", 20): api.ErrForm,
		"\x81": api.ErrShort, "\x80": api.ErrShort, "\xff\xff\xff": api.ErrShort, "": api.ErrShort,
		number(math.MaxUint64): api.ErrRange, number(math.MaxInt64): api.ErrRange, number(1 << 63): api.ErrRange, number(1<<40 + 2): api.ErrRange, number(1 << 41): api.ErrRange,
	}
	with := func(more map[string]api.Errno) map[string]api.Errno {
		for s, e := range form {
			more[s] = e
		}
		return more
	}
	most := strings.Repeat("x", 30)
	return map[string]map[string]api.Errno{
		"number": with(map[string]api.Errno{
			number(0): api.OK, number(1): api.OK, number(127): api.OK, number(128): api.OK, number(1 << 32): api.OK, number(1<<40 - 1): api.OK, number(1 << 40): api.OK, number(1<<40 + 1): api.OK,
		}),
		"bool": with(map[string]api.Errno{
			number(0): api.OK, number(1): api.OK, number(2): api.ErrRange, number(3): api.ErrRange, number(127): api.ErrRange, number(128): api.ErrRange, number(256): api.ErrRange, number(1 << 40): api.ErrRange,
		}),
		"length": with(map[string]api.Errno{
			number(0): api.OK, number(1): api.OK, number(255): api.OK, number(256): api.OK, number(257): api.ErrRange, number(258): api.ErrRange, number(512): api.ErrRange, number(1 << 32): api.ErrRange, number(1<<40 + 1): api.ErrRange,
		}),
		"text": with(map[string]api.Errno{
			"\x00": api.OK, "\x01a": api.OK, "\x01A": api.OK, "\x02\xff\x00": api.OK, "\x1e" + most: api.OK, "\x1f" + most + "x": api.ErrRange, "\x1f": api.ErrRange, "\x20": api.ErrRange, "\x7f": api.ErrRange,
			"\x1e" + most[1:]: api.ErrShort, "\x01": api.ErrShort, "\x02a": api.ErrShort, number(300): api.ErrRange, number(1<<40 + 1): api.ErrRange,
		}),
	}
}

// P8.2: each value of a module with each of its substitutes.
// Whether it could be read shows by another error, that of what follows it.
func TestEachValue(t *testing.T) {
	all := substitutes()
	for _, m := range []book.Module{full(), {Name: "m", Links: []book.Link{{Name: "l"}}}} {
		pieces := slowPieces(m)
		before := pieces[0].bytes
		for i, p := range pieces[1:] {
			last := i == len(pieces)-2
			for s, e := range all[p.sort] {
				b := append(bytes.Clone(before), s...)
				switch {
				case e != api.OK:
					fails(t, wire.Seal(b), e, p.sort, i)
					if e != api.ErrShort {
						fails(t, wire.Seal(append(b, 9, 9, 9)), e, p.sort, i)
						fails(t, wire.Seal(append(b, 0x80, 0)), e, p.sort, i)
					}
				case p.sort == "length" && s == "\x00": // it may end the module
					fails(t, wire.Seal(append(b, 0x80, 0)), api.ErrForm, p.sort, i)
				case !last || p.sort == "length":
					fails(t, wire.Seal(b), api.ErrShort, p.sort, i)
					fails(t, wire.Seal(append(b, 0x80, 0)), api.ErrForm, p.sort, i)
				default:
					fails(t, wire.Seal(append(b, 0)), api.ErrForm, p.sort, i)
				}
			}
			before = append(bytes.Clone(before), p.bytes...)
		}
	}
}

// P8.2: lists up to 256 elements are read, longer ones are not.
func TestLongLists(t *testing.T) {
	for n, want := range map[int]api.Errno{16: api.OK, 17: api.ErrRange, 255: api.ErrRange, 256: api.ErrRange, 257: api.ErrRange} {
		m := book.Module{Name: "m", Partitions: make([]book.Partition, n)}
		for i := range m.Partitions {
			m.Partitions[i].Name = "p"
		}
		b := slowContents(m)
		if _, e := pack.Decode(wire.Seal(b)); e != want {
			t.Errorf("%d partitions: %d, want %d", n, e, want)
		}
		left := api.ErrForm
		if n > 256 {
			left = api.ErrRange
		}
		fails(t, wire.Seal(append(b, 0)), left, n)
	}
}

// agrees tells whether Decode and slowDecode do, and whether what is decoded would be encoded in the same way.
func agrees(t *testing.T, b []byte) api.Errno {
	t.Helper()
	m, e := pack.Decode(b)
	want, fault := slowDecode(b)
	if !book.Same(m, want) || e != fault {
		t.Fatalf("Decode(% x) = %v, %d, want %v, %d", b, m, e, want, fault)
	}
	if e == api.OK {
		if again, e := pack.Encode(m); !bytes.Equal(again, b) || e != api.OK {
			t.Fatalf("Encode(%v) = % x, %d, want % x", m, again, e, b)
		}
	}
	return e
}

// P8.2, P8.3 and R1: bytes of all sorts, by the chapter's words.
func TestAgainstTheChapter(t *testing.T) {
	r := rand.New(rand.NewSource(13))
	all := substitutes()
	met := map[api.Errno]int{}
	for i := range 4000 {
		pieces := slowPieces(random(r, 1+i%4))
		for range 1 + r.Intn(2) {
			at := r.Intn(len(pieces))
			l := slices.Sorted(maps.Keys(all[pieces[at].sort]))
			if len(l) > 0 && r.Intn(2) == 0 {
				pieces[at].bytes = []byte(l[r.Intn(len(l))])
			} else {
				pieces[at].bytes = slowNumber(uint64(r.Intn(10)))
			}
		}
		met[agrees(t, wire.Seal(contents(pieces)))]++
	}
	for range 4000 {
		b := slowContents(random(r, 3))
		for range 1 + r.Intn(3) {
			b[r.Intn(len(b))] = byte(r.Intn(256))
		}
		met[agrees(t, wire.Seal(b))]++
	}
	for i := range 4000 {
		b := make([]byte, i%40)
		for j := range b {
			b[j] = byte(r.Intn(256)) & byte(r.Intn(256)) & byte(r.Intn(256))
		}
		if len(b) > 0 {
			b[0] = 1
		}
		met[agrees(t, wire.Seal(b))]++
		agrees(t, b)
	}
	for _, e := range []api.Errno{api.OK, api.ErrRange, api.ErrForm, api.ErrShort} {
		if met[e] < 20 {
			t.Errorf("the error %d was met only %d times", e, met[e])
		}
	}
}
