package wire_test

import (
	"bytes"
	"math"
	"math/big"
	"strings"
	"testing"

	"monocoque/api"
	"monocoque/wire"
)

// state is what a reader tells of itself.
type state struct {
	left     int
	err, end api.Errno
}

func stateOf(r *wire.Reader) state { return state{r.Left(), r.Err(), r.End()} }

// after is the state of a reader that had no error, with so many bytes left.
func after(left int) state {
	if left > 0 {
		return state{left, api.OK, api.ErrForm}
	}
	return state{0, api.OK, api.OK}
}

// stuck is the state of a reader with an error.
func stuck(left int, e api.Errno) state { return state{left, e, e} }

// P2.2: single bytes, up to the end and beyond.
func TestByte(t *testing.T) {
	r := wire.NewReader([]byte{0, 255, 128})
	for i, c := range []byte{0, 255, 128} {
		if got := r.Byte(); got != c || stateOf(r) != after(2-i) {
			t.Errorf("Byte %d = %d, %v", i, got, stateOf(r))
		}
	}
	if got := r.Byte(); got != 0 || stateOf(r) != stuck(0, api.ErrShort) {
		t.Error("Byte at the end:", got, stateOf(r))
	}
}

// P2.2: words, and bytes that are cut off.
func TestWord(t *testing.T) {
	r := wire.NewReader([]byte{1, 2, 3, 4, 255, 254, 253, 252, 0, 0, 0, 0, 9})
	for i, w := range []uint32{0x01020304, 0xfffefdfc, 0} {
		if got := r.Word(); got != w || stateOf(r) != after(9-4*i) {
			t.Errorf("Word %d = %x, %v", i, got, stateOf(r))
		}
	}
	if got := r.Word(); got != 0 || stateOf(r) != stuck(1, api.ErrShort) {
		t.Error("Word of one byte:", got, stateOf(r))
	}
	for n := range 4 {
		r := wire.NewReader([]byte{1, 2, 3, 4}[:n])
		if got := r.Word(); got != 0 || stateOf(r) != stuck(n, api.ErrShort) {
			t.Errorf("Word of %d bytes = %x, %v", n, got, stateOf(r))
		}
	}
}

// slowVar reads a number by the definition: its value, how many bytes it has, and the first error that applies.
func slowVar(b []byte, most uint64) (uint64, int, api.Errno) {
	head := b[:min(10, len(b))]
	n, used := new(big.Int), 0
	for i, c := range head {
		n.Add(n.Mul(n, big.NewInt(128)), big.NewInt(int64(c%128)))
		if c < 128 {
			used = i + 1
			break
		}
	}
	switch {
	case used == 0 && len(b) < 10:
		return 0, 0, api.ErrShort
	case used == 0, b[0] == 128, !n.IsUint64():
		return 0, 0, api.ErrForm
	case n.Uint64() > most:
		return 0, 0, api.ErrRange
	}
	return n.Uint64(), used, api.OK
}

// checkVar reads b by Var and by slowVar.
func checkVar(t *testing.T, b []byte, most uint64) {
	t.Helper()
	n, used, e := slowVar(b, most)
	want := after(len(b) - used)
	if e != api.OK {
		want = stuck(len(b), e)
	}
	r := wire.NewReader(b)
	if got := r.Var(most); got != n || stateOf(r) != want {
		t.Errorf("Var(%d) of % x = %d, %v, want %d, %v", most, b, got, stateOf(r), n, want)
	}
}

// P2.2: each error of Var, and which of two comes first.
func TestErrorsOfVar(t *testing.T) {
	full := strings.Repeat("\xff", 10)
	for _, x := range []struct {
		b    string
		most uint64
		n    uint64
		s    state
	}{
		{"", 9, 0, stuck(0, api.ErrShort)},
		{"\x81", 900, 0, stuck(1, api.ErrShort)},
		{"\x80", 900, 0, stuck(1, api.ErrShort)},
		{"\x80\x80\x80", 900, 0, stuck(3, api.ErrShort)},
		{full[:9], 900, 0, stuck(9, api.ErrShort)},
		{full, math.MaxUint64, 0, stuck(10, api.ErrForm)},
		{full + "\x00", math.MaxUint64, 0, stuck(11, api.ErrForm)},
		{full + full, 0, 0, stuck(20, api.ErrForm)},
		{"\x80\x00", math.MaxUint64, 0, stuck(2, api.ErrForm)},
		{"\x80\x01", 0, 0, stuck(2, api.ErrForm)},
		{"\x80" + full[:8] + "\x7f", math.MaxUint64, 0, stuck(10, api.ErrForm)},
		{"\x81" + full[:8] + "\x7f", math.MaxUint64, math.MaxUint64, after(0)},
		{"\x81" + full[:8] + "\x7f", math.MaxUint64 - 1, 0, stuck(10, api.ErrRange)},
		{"\x82\x80\x80\x80\x80\x80\x80\x80\x80\x00", math.MaxUint64, 0, stuck(10, api.ErrForm)},
		{"\x83\x80\x80\x80\x80\x80\x80\x80\x80\x00", 0, 0, stuck(10, api.ErrForm)},
		{full[:9] + "\x7f", math.MaxUint64, 0, stuck(10, api.ErrForm)},
		{"\x00", 0, 0, after(0)},
		{"\x01", 0, 0, stuck(1, api.ErrRange)},
		{"\x05\x06", 5, 5, after(1)},
		{"\x05\x06", 4, 0, stuck(2, api.ErrRange)},
		{"\x81\x00", 128, 128, after(0)},
		{"\x81\x00", 127, 0, stuck(2, api.ErrRange)},
	} {
		r := wire.NewReader([]byte(x.b))
		if n := r.Var(x.most); n != x.n || stateOf(r) != x.s {
			t.Errorf("Var(%d) of % x = %d, %v, want %d, %v", x.most, x.b, n, stateOf(r), x.n, x.s)
		}
	}
}

// P2.2: all encodings of up to two bytes, and cut-off, lengthened and bent ones of all lengths.
func TestVarAgainstTheDefinition(t *testing.T) {
	for a := range 256 {
		for _, most := range []uint64{0, 100, math.MaxUint64} {
			checkVar(t, []byte{byte(a)}, most)
			for c := range 256 {
				checkVar(t, []byte{byte(a), byte(c)}, most)
			}
		}
	}
	for _, n := range numbers() {
		b := slowNumber(n)
		for cut := range b {
			checkVar(t, b[:cut], n)
		}
		for _, most := range []uint64{0, n / 2, n - 1, n, n + 1, math.MaxUint64} {
			checkVar(t, b, most)
			checkVar(t, append(bytes.Clone(b), 128, 0), most)
			checkVar(t, append([]byte{128}, b...), most)
			checkVar(t, append([]byte{129}, b...), most)
			checkVar(t, append([]byte{130, 128}, b...), most)
		}
	}
	for i := range 2000 {
		b := mixed(i%14 + i)[i:]
		for j := range b {
			if i%3 != j%5 {
				b[j] |= 128
			}
		}
		checkVar(t, b, math.MaxUint64>>(i%64))
	}
}

// P2.2: each error of Text, and which of two comes first.
func TestErrorsOfText(t *testing.T) {
	full := strings.Repeat("\xff", 10)
	huge := "\x81" + full[:8] + "\x7f" // 2^64 - 1
	for _, x := range []struct {
		b    string
		most int
		s    string
		st   state
	}{
		{"\x02ab", 2, "ab", after(0)},
		{"\x02ab", 1, "", stuck(3, api.ErrRange)},
		{"\x02abc", math.MaxInt, "ab", after(1)},
		{"\x00", 0, "", after(0)},
		{"\x00abc", 5, "", after(3)},
		{"\x00", -1, "", after(0)},
		{"\x00", math.MinInt, "", after(0)},
		{"\x01a", -1, "", stuck(2, api.ErrRange)},
		{"\x01a", math.MinInt, "", stuck(2, api.ErrRange)},
		{"\x01a", 0, "", stuck(2, api.ErrRange)},
		{"\x03ab", 5, "", stuck(3, api.ErrShort)},
		{"\x03ab", 3, "", stuck(3, api.ErrShort)},
		{"\x03ab", 2, "", stuck(3, api.ErrRange)},
		{"\x01", 1, "", stuck(1, api.ErrShort)},
		{"", 5, "", stuck(0, api.ErrShort)},
		{"\x81", 500, "", stuck(1, api.ErrShort)},
		{"\x80\x01a", 5, "", stuck(3, api.ErrForm)},
		{"\x80\x01a", -1, "", stuck(3, api.ErrForm)},
		{full + "a", 5, "", stuck(11, api.ErrForm)},
		{"\x82\x80\x80\x80\x80\x80\x80\x80\x80\x00a", math.MaxInt, "", stuck(11, api.ErrForm)},
		{huge + "a", math.MaxInt, "", stuck(11, api.ErrRange)},
		{huge + "a", -1, "", stuck(11, api.ErrRange)},
		{"\x81\x80\x80\x80\x80\x80\x80\x80\x80\x00a", math.MaxInt, "", stuck(11, api.ErrRange)},
		{full[:8] + "\x7fa", math.MaxInt, "", stuck(10, api.ErrShort)},
		{full[:8] + "\x7fa", math.MaxInt - 1, "", stuck(10, api.ErrRange)},
		{full[:8] + "\x78abc", math.MaxInt, "", stuck(12, api.ErrShort)},
		{"\x04\xff\x00\xc3(", 4, "\xff\x00\xc3(", after(0)},
	} {
		r := wire.NewReader([]byte(x.b))
		if s := r.Text(x.most); s != x.s || stateOf(r) != x.st {
			t.Errorf("Text(%d) of % x = %q, %v, want %q, %v", x.most, x.b, s, stateOf(r), x.s, x.st)
		}
	}
}

// P2.4: what was written, all kinds behind each other, is read back; P2.3: what is left on the way.
func TestWhatWasWrittenIsRead(t *testing.T) {
	var b []byte
	texts := []string{"", "a", "\xff\x00", strings.Repeat("long ", 100)}
	for i, n := range numbers() {
		b = wire.PutVar(b, n)
		b = wire.PutText(b, texts[i%len(texts)])
		b = wire.PutWord(b, uint32(n*2654435761))
		b = append(b, byte(n))
	}
	b, e := wire.Open(wire.Seal(b))
	if e != api.OK {
		t.Fatal(e)
	}
	r := wire.NewReader(b)
	left := len(b)
	for i, n := range numbers() {
		s := texts[i%len(texts)]
		if got := r.Var(n); got != n {
			t.Fatalf("%d: the number %d is read as %d, %v", i, n, got, stateOf(r))
		}
		if got := r.Text(len(s)); got != s {
			t.Fatalf("%d: the text %q is read as %q, %v", i, s, got, stateOf(r))
		}
		if got := r.Word(); got != uint32(n*2654435761) {
			t.Fatalf("%d: a word is read as %d, %v", i, got, stateOf(r))
		}
		if got := r.Byte(); got != byte(n) {
			t.Fatalf("%d: a byte is read as %d, %v", i, got, stateOf(r))
		}
		left -= len(slowNumber(n)) + len(slowNumber(uint64(len(s)))) + len(s) + 5
		if stateOf(r) != after(left) {
			t.Fatalf("%d: %v, want %v", i, stateOf(r), after(left))
		}
	}
	if left != 0 {
		t.Error("left:", left)
	}
}

// The first error remains: whatever is read later is zero, moves nothing, and leaves the error as it is.
func TestFirstErrorRemains(t *testing.T) {
	good := "\x01\x01a\x02bc"
	for name, x := range map[string]struct {
		b     string
		read  func(r *wire.Reader)
		first state
	}{
		"ErrRange of Var":  {"\x05" + good, func(r *wire.Reader) { r.Var(4) }, stuck(7, api.ErrRange)},
		"ErrForm of Var":   {"\x80" + good, func(r *wire.Reader) { r.Var(400) }, stuck(7, api.ErrForm)},
		"ErrRange of Text": {"\x02" + good, func(r *wire.Reader) { r.Text(1) }, stuck(7, api.ErrRange)},
		"ErrShort of Text": {"\x7f" + good, func(r *wire.Reader) { r.Text(200) }, stuck(7, api.ErrShort)},
		"ErrForm of Text":  {"\x80" + good, func(r *wire.Reader) { r.Text(400) }, stuck(7, api.ErrForm)},
		"ErrShort of Word": {"\x01\x02\x03", func(r *wire.Reader) { r.Word() }, stuck(3, api.ErrShort)},
		"ErrShort of Var":  {"\x81\x82", func(r *wire.Reader) { r.Var(400) }, stuck(2, api.ErrShort)},
		"ErrShort of Byte": {"", func(r *wire.Reader) { r.Byte() }, stuck(0, api.ErrShort)},
	} {
		r := wire.NewReader([]byte(x.b))
		x.read(r)
		if stateOf(r) != x.first {
			t.Errorf("%s: %v, want %v", name, stateOf(r), x.first)
		}
		for range 2 {
			if r.Byte() != 0 || r.Word() != 0 || r.Var(1) != 0 || r.Var(math.MaxUint64) != 0 || r.Text(9) != "" || r.Text(-1) != "" || stateOf(r) != x.first {
				t.Errorf("%s: a later read has an effect: %v, want %v", name, stateOf(r), x.first)
			}
		}
	}
}

// A read with an error leaves the position where it was, after some that had none.
func TestErrorInTheMiddle(t *testing.T) {
	r := wire.NewReader([]byte("\x07\x01a\x00\x00\x00\x09\x05xy"))
	if r.Byte() != 7 || r.Text(1) != "a" || r.Word() != 9 || stateOf(r) != after(3) {
		t.Error(stateOf(r))
	}
	if r.Text(9) != "" || stateOf(r) != stuck(3, api.ErrShort) {
		t.Error(stateOf(r))
	}
}

// P2.3: Left, Err and End do not move the position, and End leaves no error.
func TestTellingMovesNothing(t *testing.T) {
	r := wire.NewReader([]byte{1, 2, 3})
	for i := range 3 {
		for range 3 {
			if stateOf(r) != after(3-i) {
				t.Error(i, stateOf(r))
			}
		}
		if got := r.Byte(); got != byte(i+1) {
			t.Error(i, got)
		}
	}
	if stateOf(r) != after(0) {
		t.Error(stateOf(r))
	}
	for _, b := range [][]byte{nil, {}} {
		if r := wire.NewReader(b); stateOf(r) != after(0) {
			t.Error(stateOf(r))
		}
	}
}

// P2.2 and R4: a reader has a copy of its bytes, and leaves them as they are.
func TestReaderHasACopy(t *testing.T) {
	b := []byte("\x05\x02ab\x01\x02\x03\x04")
	before := bytes.Clone(b)
	r, other := wire.NewReader(b), wire.NewReader(b)
	if r.Var(9) != 5 || r.Text(9) != "ab" || !bytes.Equal(b, before) {
		t.Error(stateOf(r), b)
	}
	for i := range b {
		b[i] = 0xee
	}
	if r.Word() != 0x01020304 || stateOf(r) != after(0) {
		t.Error("a reader changes with its bytes:", stateOf(r))
	}
	if stateOf(other) != after(8) || other.Byte() != 5 || other.Text(9) != "ab" {
		t.Error("two readers of the same bytes are not independent:", stateOf(other))
	}
}

// P2.4: nil readers.
func TestNilReader(t *testing.T) {
	var r *wire.Reader
	for range 2 {
		if r.Byte() != 0 || r.Word() != 0 || r.Var(9) != 0 || r.Text(9) != "" || r.Text(-1) != "" {
			t.Error("a nil reader reads something")
		}
		if stateOf(r) != stuck(0, api.ErrArg) {
			t.Error(stateOf(r))
		}
	}
}

// R1: whatever the bytes are, the reads of a reader of them end without a panic, and never go beyond them.
func TestNoBytesPanic(t *testing.T) {
	for i := range 3000 {
		b := mixed(40 + i)[:i%40]
		r := wire.NewReader(b)
		for j := range 50 {
			before := r.Left()
			switch (i + j*j) % 4 {
			case 0:
				r.Byte()
			case 1:
				r.Word()
			case 2:
				r.Var(math.MaxUint64)
			case 3:
				r.Text(math.MaxInt)
			}
			if r.Left() > before || r.Left() < 0 || r.Err() != api.OK && r.Left() != before {
				t.Fatal(i, j, before, stateOf(r))
			}
		}
		wire.Open(b)
	}
}
