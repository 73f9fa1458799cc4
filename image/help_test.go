package image_test

import (
	"bytes"
	"math/rand"
	"slices"
	"testing"

	"monocoque/api"
	"monocoque/image"
	"monocoque/space"
	"monocoque/wire"
)

// words returns so many words, none of which is 0.
func words(n int) (l []uint32) {
	for i := range n {
		l = append(l, uint32(i+1)*2654435761|1)
	}
	return l
}

// at returns a section with so many words.
func at(place, n int) image.Section { return image.Section{At: place, Words: words(n)} }

// of returns an image with these sections, and no entries.
func of(l ...image.Section) image.Image { return image.Image{Sections: l} }

// entered returns an image with a section at 0 and these entries.
func entered(n int, entries ...int) image.Image {
	return image.Image{Sections: []image.Section{at(0, n)}, Entries: entries}
}

func clone(i image.Image) image.Image {
	c := image.Image{Entries: slices.Clone(i.Entries)}
	for _, s := range i.Sections {
		c.Sections = append(c.Sections, image.Section{At: s.At, Words: slices.Clone(s.Words)})
	}
	return c
}

func same(a, b image.Image) bool {
	return slices.Equal(a.Entries, b.Entries) && slices.EqualFunc(a.Sections, b.Sections, func(s, o image.Section) bool {
		return s.At == o.At && slices.Equal(s.Words, o.Words)
	})
}

// slowCheck is what the chapter says of Check, place by place.
func slowCheck(i image.Image) api.Errno {
	if len(i.Sections) == 0 {
		return api.ErrRange
	}
	if len(i.Sections) > 16 {
		return api.ErrFull
	}
	var places []int
	for n, s := range i.Sections {
		if s.At < 0 || s.At > 65535 || len(s.Words) < 1 || len(s.Words) > 4096 || s.At+len(s.Words)-1 > 65535 {
			return api.ErrRange
		}
		if n > 0 && s.At <= slices.Max(places) {
			return api.ErrOrder
		}
		for m := range s.Words {
			places = append(places, s.At+m)
		}
	}
	if len(places) > 4096 || len(i.Entries) > 16 {
		return api.ErrFull
	}
	for _, entry := range i.Entries {
		if !slices.Contains(places, entry) {
			return api.ErrRange
		}
	}
	return api.OK
}

// contents returns the bytes of an image, right or not, ahead of their sum.
func contents(i image.Image) []byte {
	var b bytes.Buffer
	number := func(n int) { b.Write(wire.PutVar(nil, uint64(n))) }
	b.WriteByte(77)
	number(len(i.Sections))
	for _, s := range i.Sections {
		number(s.At)
		number(len(s.Words))
		for _, w := range s.Words {
			b.Write([]byte{byte(w >> 24), byte(w >> 16), byte(w >> 8), byte(w)})
		}
	}
	number(len(i.Entries))
	for _, n := range i.Entries {
		number(n)
	}
	return b.Bytes()
}

// slowOpen is what the chapter says of Open, read by read.
func slowOpen(b []byte) (image.Image, api.Errno) {
	b, e := wire.Open(b)
	if e != api.OK {
		return image.Image{}, e
	}
	if len(b) == 0 || b[0] != 77 {
		return image.Image{}, api.ErrForm
	}
	r := wire.NewReader(b[1:])
	var i image.Image
	sections := r.Var(16)
	for range sections {
		s := image.Section{At: int(r.Var(65535))}
		n := r.Var(4096)
		for range n {
			s.Words = append(s.Words, r.Word())
		}
		i.Sections = append(i.Sections, s)
	}
	entries := r.Var(16)
	for range entries {
		i.Entries = append(i.Entries, int(r.Var(65535)))
	}
	if r.Err() != api.OK {
		return image.Image{}, r.Err()
	}
	if r.Left() > 0 {
		return image.Image{}, api.ErrForm
	}
	if e := slowCheck(i); e != api.OK {
		return image.Image{}, e
	}
	return i, api.OK
}

// checks tells whether Check, Pack and Load return that error.
func checks(t *testing.T, i image.Image, e api.Errno) {
	t.Helper()
	kept := clone(i)
	if got := image.Check(i); got != e {
		t.Errorf("Check(%v) = %d, want %d", i, got, e)
	}
	b, got := image.Pack(i)
	if got != e || e != api.OK && len(b) > 0 {
		t.Errorf("Pack(%v) = %d bytes, %d, want %d", i, len(b), got, e)
	}
	if want := wire.Seal(contents(i)); e == api.OK && !bytes.Equal(b, want) {
		t.Errorf("Pack(%v) = % x, want % x", i, b, want)
	}
	s := newSpace(t)
	if got := image.Load(i, s); e != api.OK && (got != e || !s.Same(newSpace(t))) {
		t.Errorf("Load(%v) = %d, want %d", i, got, e)
	}
	if !same(i, kept) {
		t.Errorf("the image %v is changed to %v", kept, i)
	}
}

// newSpace returns a space with areas of all rights, between which there are gaps, and words of its own.
func newSpace(t *testing.T) *space.Space {
	t.Helper()
	return spaceOf(t, space.Area{From: 0, Words: 20, Run: true}, space.Area{From: 30, Words: 5, Write: true},
		space.Area{From: 20, Words: 4, Keep: true}, space.Area{From: 65530, Words: 6, Write: true, Run: true})
}

func spaceOf(t *testing.T, l ...space.Area) *space.Space {
	t.Helper()
	s, e := space.New(l)
	if e != api.OK {
		t.Fatalf("New(%v) = %d", l, e)
	}
	for _, a := range l {
		for n := range a.Words {
			s.Fill(uint32(a.From+n), []uint32{uint32(1000000 + a.From + n)})
		}
	}
	return s
}

// opens tells whether Open returns that image, or that error.
func opens(t *testing.T, b []byte, i image.Image, e api.Errno) {
	t.Helper()
	kept := bytes.Clone(b)
	got, gotE := image.Open(b)
	if gotE != e || !same(got, i) {
		t.Errorf("Open(% x) = %v, %d, want %v, %d", b, got, gotE, i, e)
	}
	if !bytes.Equal(b, kept) {
		t.Errorf("Open changes % x to % x", kept, b)
	}
}

// fails tells whether Open returns that error for contents that are sealed.
func fails(t *testing.T, e api.Errno, contents ...byte) {
	t.Helper()
	opens(t, wire.Seal(contents), image.Image{}, e)
}

// some returns an image, mostly a right one.
func some(dice *rand.Rand) (i image.Image) {
	end := 0
	for range dice.Intn(5) + 1 {
		n := dice.Intn(1 << dice.Intn(8))
		if dice.Intn(40) > 0 {
			n = max(n, 1)
		}
		from := end + dice.Intn(2)*dice.Intn(1<<dice.Intn(14))
		if dice.Intn(40) == 0 {
			from = dice.Intn(1<<dice.Intn(18)) - 1
		}
		s := image.Section{At: from}
		for range n {
			s.Words = append(s.Words, dice.Uint32()>>dice.Intn(33))
		}
		i.Sections = append(i.Sections, s)
		end = from + n
	}
	for range dice.Intn(5) {
		s := i.Sections[dice.Intn(len(i.Sections))]
		entry := s.At + dice.Intn(max(len(s.Words), 1))
		if dice.Intn(40) == 0 {
			entry += dice.Intn(200) - 100
		}
		i.Entries = append(i.Entries, entry)
	}
	return i
}
