package image

import (
	"monocoque/api"
	"monocoque/wire"
)

// mark is the first byte of each image.
const mark = 77

// Pack returns the bytes of an image.
func Pack(i Image) ([]byte, api.Errno) {
	if e := Check(i); e != api.OK {
		return nil, e
	}
	b := []byte{mark}
	// Each value is encoded on its own, since layer 2 would copy all the bytes ahead of it each time.
	number := func(n int) { b = append(b, wire.PutVar(nil, uint64(n))...) }
	number(len(i.Sections))
	for _, s := range i.Sections {
		number(s.At)
		number(len(s.Words))
		for _, w := range s.Words {
			b = append(b, wire.PutWord(nil, w)...)
		}
	}
	number(len(i.Entries))
	for _, at := range i.Entries {
		number(at)
	}
	return wire.Seal(b), api.OK
}

// Open returns the image of some bytes.
func Open(b []byte) (Image, api.Errno) {
	b, e := wire.Open(b)
	if e != api.OK {
		return Image{}, e
	}
	r := wire.NewReader(b)
	if r.Byte() != mark {
		return Image{}, api.ErrForm
	}
	i := read(r)
	if e := r.End(); e != api.OK {
		return Image{}, e
	}
	if e := Check(i); e != api.OK {
		return Image{}, e
	}
	return i, api.OK
}

// read returns the image that a reader stands ahead of; what it returns is nothing of use if the reader has an error then.
func read(r *wire.Reader) (i Image) {
	place := func() int { return int(r.Var(lastPlace)) }
	i.Sections = list(r, mostSections, func() Section {
		return Section{At: place(), Words: list(r, mostWords, r.Word)}
	})
	i.Entries = list(r, mostEntries, place)
	return i
}

// list reads a number and so many elements, up to the first error.
func list[T any](r *wire.Reader, most uint64, element func() T) (l []T) {
	for range r.Var(most) {
		l = append(l, element())
		if r.Err() != api.OK {
			return nil
		}
	}
	return l
}
