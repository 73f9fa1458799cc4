package image_test

import (
	"bytes"
	"math/rand"
	"slices"
	"testing"

	"monocoque/api"
	"monocoque/image"
	"monocoque/wire"
)

// sample is a right image.
func sample() image.Image {
	return image.Image{
		Sections: []image.Section{at(0, 3), at(200, 1), {At: 65535, Words: []uint32{0xffffffff}}},
		Entries:  []int{2, 200, 65535, 0, 2},
	}
}

// greatest returns images with as much of each thing as there can be.
func greatest() []image.Image {
	full := image.Image{Entries: []int{65535}}
	for n := range 16 {
		full.Sections = append(full.Sections, at(65536-(16-n)*256, 256))
		full.Entries = append(full.Entries, 65535-256*n)
	}
	full.Entries = full.Entries[1:]
	return []image.Image{full, of(at(0, 4096)), of(at(61440, 4096)), entered(4096, slices.Repeat([]int{4095}, 16)...), of(at(0, 1))}
}

// P18.4: opening what was packed yields the same image, and packing that yields the same bytes.
func TestWhatIsPackedIsOpened(t *testing.T) {
	dice := rand.New(rand.NewSource(2))
	images := append(greatest(), sample())
	for len(images) < 2000 {
		if i := some(dice); image.Check(i) == api.OK {
			images = append(images, i)
		}
	}
	for _, i := range images {
		b, e := image.Pack(i)
		if e != api.OK || !bytes.Equal(b, wire.Seal(contents(i))) {
			t.Fatalf("Pack(%v) = % x, %d", i, b, e)
		}
		opens(t, b, i, api.OK)
		opened, _ := image.Open(b)
		if again, e := image.Pack(opened); e != api.OK || !bytes.Equal(again, b) {
			t.Fatalf("Pack(%v) = % x, %d, want % x", opened, again, e, b)
		}
	}
}

// P18.2: the errors of layer 2 come first, whatever the contents are.
func TestErrorsOfOpen(t *testing.T) {
	b, _ := image.Pack(sample())
	for n := range b {
		e := api.ErrSum
		if n < 4 {
			e = api.ErrShort
		}
		opens(t, b[:n], image.Image{}, e)
	}
	opens(t, nil, image.Image{}, api.ErrShort)
	opens(t, append(bytes.Clone(b), 0), image.Image{}, api.ErrSum)
	opens(t, []byte{78, 1, 2, 3, 4}, image.Image{}, api.ErrSum)
	opens(t, []byte{77, 17, 2, 3, 4}, image.Image{}, api.ErrSum)
}

// P18.4: some bits are inverted that lie within 32 consecutive ones.
func TestInvertedBits(t *testing.T) {
	dice := rand.New(rand.NewSource(3))
	i := sample()
	b, _ := image.Pack(i)
	for from := range 8 * len(b) {
		for n := range 40 {
			bits := dice.Uint32()>>dice.Intn(32) | 1
			if n < 32 {
				bits = 1<<n | 1
			}
			c := bytes.Clone(b)
			for k := range min(32, 8*len(b)-from) {
				c[(from+k)/8] ^= byte(bits>>k&1) << (7 - (from+k)%8)
			}
			if _, e := image.Open(c); e == api.OK || bytes.Equal(b, c) {
				t.Fatalf("Open(% x) = %d", c, e)
			}
		}
	}
}

// P18.2: the first byte.
func TestMark(t *testing.T) {
	rest := contents(sample())[1:]
	for c := range 256 {
		if c != 77 {
			fails(t, api.ErrForm, append([]byte{byte(c)}, rest...)...)
			fails(t, api.ErrForm, byte(c))
			fails(t, api.ErrForm, byte(c), 17)
		}
	}
	fails(t, api.ErrForm)
	fails(t, api.ErrForm, rest...)
	fails(t, api.ErrShort, 77)
}

// P18.2: contents that end too early, or are followed by bytes.
func TestTooFewAndTooMany(t *testing.T) {
	b := contents(sample())
	for n := 1; n < len(b); n++ {
		fails(t, api.ErrShort, b[:n]...)
	}
	for _, rest := range [][]byte{{0}, {1}, {77}, {0x80}, {255, 255}, b} {
		fails(t, api.ErrForm, slices.Concat(b, rest)...)
		// Ahead of the error of Check.
		fails(t, api.ErrForm, slices.Concat([]byte{77, 0, 0}, rest)...)
		fails(t, api.ErrForm, slices.Concat([]byte{77, 1, 5, 0, 1, 9}, rest)...)
	}
}

// P18.2: the errors of single numbers.
func TestNumbers(t *testing.T) {
	word := []byte{0, 0, 0, 1}
	join := func(l ...[]byte) []byte { return slices.Concat(l...) }
	number := func(n uint64) []byte { return wire.PutVar(nil, n) }
	for _, c := range []struct {
		e    api.Errno
		read []byte
	}{
		// Of sections.
		{api.ErrRange, number(17)},
		{api.ErrRange, number(1 << 63)},
		{api.ErrForm, []byte{0x80, 1}},
		{api.ErrForm, bytes.Repeat([]byte{255}, 10)},
		{api.ErrShort, []byte{0x81}},
		{api.ErrShort, number(16)},
		// Of a place.
		{api.ErrRange, join(number(1), number(65536))},
		{api.ErrRange, join(number(1), number(65536), []byte{0x80, 0})},
		{api.ErrForm, join(number(1), []byte{0x80, 0})},
		{api.ErrShort, join(number(1), number(65535))},
		{api.ErrRange, join(number(2), number(0), number(1), word, number(65536))},
		// Of words.
		{api.ErrRange, join(number(1), number(0), number(4097))},
		{api.ErrForm, join(number(1), number(0), []byte{0x80, 1})},
		{api.ErrShort, join(number(1), number(0), number(4096))},
		{api.ErrShort, join(number(1), number(0), number(2), word, word[:3])},
		{api.ErrShort, join(number(1), number(0), number(1))},
		{api.ErrShort, join(number(1), number(0), number(1), word)},
		// Of entries.
		{api.ErrRange, join(number(1), number(0), number(1), word, number(17))},
		{api.ErrForm, join(number(1), number(0), number(1), word, []byte{0x80, 0})},
		{api.ErrShort, join(number(1), number(0), number(1), word, number(1))},
		{api.ErrRange, join(number(1), number(0), number(1), word, number(1), number(65536))},
		{api.ErrForm, join(number(1), number(0), number(1), word, number(1), []byte{0x80, 0})},
		{api.ErrRange, join(number(1), number(0), number(1), word, number(2), number(0), number(65536))},
		// From left to right.
		{api.ErrForm, join(number(1), []byte{0x80, 0}, number(4097))},
		{api.ErrRange, join(number(1), number(65536), []byte{0x80})},
	} {
		fails(t, c.e, join([]byte{77}, c.read)...)
	}
}

// P18.2: what can be read, but is not right.
func TestErrorsOfCheck(t *testing.T) {
	for _, i := range []image.Image{
		{}, entered(0), entered(1, 1), {Entries: []int{0}},
		of(at(65535, 2)), of(at(5, 5), at(9, 1)), of(at(0, 4096), at(4096, 1)),
		of(slices.Repeat([]image.Section{at(0, 4096)}, 16)...), of(make([]image.Section, 16)...),
	} {
		e := slowCheck(i)
		if e == api.OK {
			t.Fatalf("%v is right", i)
		}
		fails(t, e, contents(i)...)
	}
}

// P18.2: contents of all sorts, by the chapter's words.
func TestOpenAgainstTheChapter(t *testing.T) {
	dice := rand.New(rand.NewSource(4))
	met := map[api.Errno]int{}
	for range 20000 {
		b := contents(some(dice))
		for dice.Intn(3) == 0 {
			n := dice.Intn(min(len(b), 12)) // where numbers are rather than words
			if dice.Intn(2) == 0 {
				n = len(b) - 1 - n
			}
			switch dice.Intn(4) {
			case 0:
				b[n] = byte(dice.Intn(256))
			case 1:
				b[n] ^= 1 << dice.Intn(8)
			case 2:
				b = slices.Insert(b, n, byte(dice.Intn(256)>>dice.Intn(8)))
			case 3:
				b = append(b[:n], b[min(n+1+dice.Intn(2), len(b)):]...)
			}
			if len(b) == 0 {
				b = []byte{77}
			}
		}
		b = wire.Seal(b)
		if dice.Intn(50) == 0 {
			b = b[:dice.Intn(len(b))]
		}
		i, e := slowOpen(b)
		opens(t, b, i, e)
		if t.Failed() {
			return
		}
		met[e]++
	}
	for _, e := range []api.Errno{api.OK, api.ErrRange, api.ErrForm, api.ErrShort, api.ErrSum, api.ErrOrder} {
		if met[e] < 100 {
			t.Errorf("the error %d was met only %d times", e, met[e])
		}
	}
}

// P18.4: what is returned shares nothing with what was passed.
func TestNothingIsShared(t *testing.T) {
	i := sample()
	b, _ := image.Pack(i)
	kept := bytes.Clone(b)
	opened, _ := image.Open(b)
	other, _ := image.Open(b)
	i.Sections[0].Words[0]++
	i.Entries[0]++
	if !bytes.Equal(b, kept) {
		t.Error("bytes hang on the image")
	}
	clear(b)
	if !same(opened, sample()) {
		t.Errorf("%v hangs on the bytes", opened)
	}
	for n := range opened.Sections {
		s := &opened.Sections[n]
		s.Words = append(s.Words, 1)
		clear(s.Words)
	}
	clear(opened.Entries)
	if !same(other, sample()) {
		t.Errorf("%v hangs on another image", other)
	}
	if again, e := image.Open(kept); e != api.OK || !same(again, sample()) {
		t.Errorf("Open = %v, %d", again, e)
	}
}
