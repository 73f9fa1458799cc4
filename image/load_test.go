package image_test

import (
	"math/rand"
	"testing"

	"monocoque/api"
	"monocoque/image"
	"monocoque/space"
)

// loads tells whether Load returns that error, and what the space has then.
func loads(t *testing.T, i image.Image, s *space.Space, e api.Errno) {
	t.Helper()
	want := s.Clone()
	if e == api.OK {
		for _, section := range i.Sections {
			for n, w := range section.Words {
				want.Fill(uint32(section.At+n), []uint32{w})
			}
		}
	}
	kept := clone(i)
	if got := image.Load(i, s); got != e {
		t.Errorf("Load(%v) = %d, want %d", i, got, e)
	}
	if !s.Same(want) {
		t.Errorf("Load(%v) leaves %v, want %v", i, s.Words(), want.Words())
	}
	if !same(i, kept) {
		t.Errorf("Load changes %v to %v", kept, i)
	}
}

// P18.3: words come into areas whatever their rights are, also into several areas that lie beside each other.
func TestLoad(t *testing.T) {
	for _, i := range []image.Image{
		of(at(0, 1)), of(at(0, 20)), of(at(20, 4)), of(at(30, 5)), of(at(65530, 6)), of(at(65535, 1)),
		of(at(0, 24)), of(at(19, 2)), of(at(5, 3), at(10, 13), at(31, 2), at(65531, 1)),
		{Sections: []image.Section{at(5, 3)}, Entries: []int{5, 7, 6}},
	} {
		loads(t, i, newSpace(t), api.OK)
	}
	s := newSpace(t)
	loads(t, of(at(0, 24)), s, api.OK)
	loads(t, of(image.Section{At: 1, Words: make([]uint32, 7)}), s, api.OK)
	loads(t, of(at(0, 4096)), spaceOf(t, space.Area{Words: 4096}), api.OK)
	loads(t, of(at(61440, 4096)), spaceOf(t, space.Area{From: 61440, Words: 4096}), api.OK)
}

// P18.3: a word that belongs to no area; nothing changes, not even what comes ahead of it.
func TestLoadNowhere(t *testing.T) {
	for _, i := range []image.Image{
		of(at(24, 1)), of(at(29, 1)), of(at(35, 1)), of(at(65529, 1)), of(at(40000, 1)),
		of(at(0, 25)), of(at(23, 2)), of(at(29, 6)), of(at(29, 7)), of(at(30, 6)), of(at(65529, 7)), of(at(20, 11)),
		of(at(0, 20), at(24, 1)), of(at(0, 3), at(30, 6)), of(at(24, 1), at(30, 5)), of(at(0, 1), at(25, 1), at(30, 1)),
	} {
		loads(t, i, newSpace(t), api.ErrRange)
		loads(t, i, spaceOf(t), api.ErrRange)
	}
	loads(t, of(at(0, 1)), &space.Space{}, api.ErrRange)
}

// P18.3: which error comes first.
func TestErrorsOfLoad(t *testing.T) {
	wrong := []image.Image{{}, of(at(0, 0)), of(at(5, 5), at(0, 5)), of(make([]image.Section, 17)...), entered(5, 5), entered(5, make([]int, 17)...)}
	for _, i := range append(wrong, of(at(0, 5)), of(at(1000, 5))) {
		if e := image.Load(i, nil); e != api.ErrArg {
			t.Errorf("Load(%v, nil) = %d", i, e)
		}
	}
	for _, i := range wrong {
		loads(t, i, newSpace(t), slowCheck(i))
	}
	// Words at places of no area, in an image that is not right.
	loads(t, of(at(1000, 5), at(0, 5)), newSpace(t), api.ErrOrder)
	loads(t, of(at(1000, 4096), at(6000, 1)), newSpace(t), api.ErrFull)
}

// P18.3: images and areas of all sorts.
func TestLoadAgainstTheChapter(t *testing.T) {
	dice := rand.New(rand.NewSource(5))
	met := map[api.Errno]int{}
	for range 3000 {
		var l []space.Area
		end := 0
		for range dice.Intn(6) {
			a := space.Area{From: end + dice.Intn(3)/2*dice.Intn(50), Words: 1 + dice.Intn(400)}
			a.Write, a.Run, a.Keep = dice.Intn(2) == 0, dice.Intn(2) == 0, dice.Intn(2) == 0
			l = append(l, a)
			end = a.From + a.Words
		}
		dice.Shuffle(len(l), func(n, m int) { l[n], l[m] = l[m], l[n] })
		i := some(dice)
		e := slowCheck(i)
		for _, section := range i.Sections {
			for n := range section.Words {
				if e == api.OK && !contained(l, section.At+n) {
					e = api.ErrRange
				}
			}
		}
		loads(t, i, spaceOf(t, l...), e)
		met[e]++
		if t.Failed() {
			return
		}
	}
	for _, e := range []api.Errno{api.OK, api.ErrRange, api.ErrOrder} {
		if met[e] < 25 {
			t.Errorf("the error %d was met only %d times", e, met[e])
		}
	}
}

// contained reports whether a place belongs to one of the areas.
func contained(l []space.Area, place int) bool {
	for _, a := range l {
		if place >= a.From && place < a.From+a.Words {
			return true
		}
	}
	return false
}

// P18.4: the words of a space are its own.
func TestLoadKeepsNothing(t *testing.T) {
	i := of(at(0, 5))
	s := newSpace(t)
	image.Load(i, s)
	want := s.Clone()
	clear(i.Sections[0].Words)
	if !s.Same(want) {
		t.Errorf("%v hangs on the image", s.Words())
	}
}
