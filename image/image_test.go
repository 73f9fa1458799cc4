package image_test

import (
	"bytes"
	"math"
	"math/rand"
	"slices"
	"testing"

	"monocoque/api"
	"monocoque/image"
)

// The example of the chapter.
func TestExample(t *testing.T) {
	b, e := image.Pack(image.Image{Sections: []image.Section{{At: 2, Words: []uint32{5}}}, Entries: []int{2}})
	if want := []byte{77, 1, 2, 1, 0, 0, 0, 5, 1, 2}; e != api.OK || len(b) != len(want)+4 || !bytes.Equal(b[:len(want)], want) {
		t.Errorf("Pack = % x, %d", b, e)
	}
}

// P18.1: the number of sections.
func TestSections(t *testing.T) {
	checks(t, image.Image{}, api.ErrRange)
	checks(t, image.Image{Sections: []image.Section{}}, api.ErrRange)
	checks(t, image.Image{Entries: []int{0}}, api.ErrRange)
	checks(t, image.Image{Entries: make([]int, 17)}, api.ErrRange)
	var i image.Image
	for n := range 20 {
		i.Sections = append(i.Sections, at(3*n, 1+n%3))
		if n < 16 {
			checks(t, i, api.OK)
		} else {
			checks(t, i, api.ErrFull)
		}
	}
	// Ahead of what is wrong in them.
	checks(t, of(make([]image.Section, 16)...), api.ErrRange)
	checks(t, of(make([]image.Section, 17)...), api.ErrFull)
}

// P18.1: the places and words of a section.
func TestSection(t *testing.T) {
	for _, c := range []struct {
		at, words int
		e         api.Errno
	}{
		{0, 1, api.OK}, {0, 4096, api.OK}, {0, 0, api.ErrRange}, {0, 4097, api.ErrRange}, {0, 70000, api.ErrRange},
		{-1, 1, api.ErrRange}, {-1, 2, api.ErrRange}, {-5000, 4096, api.ErrRange}, {math.MinInt, 1, api.ErrRange}, {math.MinInt, 0, api.ErrRange},
		{65535, 1, api.OK}, {65535, 0, api.ErrRange}, {65535, 2, api.ErrRange}, {65534, 2, api.OK}, {65534, 3, api.ErrRange},
		{65536, 1, api.ErrRange}, {65536, 0, api.ErrRange}, {61440, 4096, api.OK}, {61441, 4095, api.OK}, {61441, 4096, api.ErrRange},
		{math.MaxInt, 1, api.ErrRange}, {math.MaxInt - 4095, 4096, api.ErrRange}, {math.MaxInt, 0, api.ErrRange}, {math.MaxInt, 4097, api.ErrRange},
	} {
		checks(t, of(at(c.at, c.words)), c.e)
	}
}

// P18.1: sections in their order, and which error of two comes first.
func TestOrder(t *testing.T) {
	for _, c := range []struct {
		i image.Image
		e api.Errno
	}{
		{of(at(0, 5), at(5, 1)), api.OK},
		{of(at(0, 5), at(4, 1)), api.ErrOrder},
		{of(at(0, 5), at(0, 5)), api.ErrOrder},
		{of(at(7, 5), at(0, 5)), api.ErrOrder},
		{of(at(7, 5), at(6, 5)), api.ErrOrder},
		{of(at(7, 5), at(12, 5), at(17, 5)), api.OK},
		{of(at(7, 5), at(12, 5), at(16, 5)), api.ErrOrder},
		{of(at(7, 5), at(20, 5), at(12, 5)), api.ErrOrder},
		{of(at(65534, 1), at(65535, 1)), api.OK},
		{of(at(65535, 1), at(65535, 1)), api.ErrOrder},
		// The range of a section, then its order, then the next section.
		{of(at(5, 5), at(-1, 5)), api.ErrRange},
		{of(at(5, 5), at(0, 0)), api.ErrRange},
		{of(at(5, 5), at(0, 4097)), api.ErrRange},
		{of(at(5, 5), at(0, 5), at(-1, 5)), api.ErrOrder},
		{of(at(-1, 5), at(5, 5), at(0, 5)), api.ErrRange},
		// Both ahead of the number of words and of entries, and of what entries are.
		{of(at(0, 4096), at(5000, 4096), at(5000, 1)), api.ErrOrder},
		{of(at(0, 4096), at(5000, 4096), at(65535, 2)), api.ErrRange},
		{image.Image{Sections: []image.Section{at(5, 5), at(0, 5)}, Entries: make([]int, 17)}, api.ErrOrder},
		{image.Image{Sections: []image.Section{at(5, 5), at(0, 5)}, Entries: []int{-1}}, api.ErrOrder},
		{image.Image{Sections: []image.Section{at(5, 0)}, Entries: make([]int, 17)}, api.ErrRange},
	} {
		checks(t, c.i, c.e)
	}
}

// P18.1: the words of all sections.
func TestTotal(t *testing.T) {
	checks(t, of(at(0, 4095), at(4095, 1)), api.OK)
	checks(t, of(at(0, 4096), at(4096, 1)), api.ErrFull)
	checks(t, of(at(0, 4095), at(4095, 2)), api.ErrFull)
	checks(t, of(at(10, 2000), at(3000, 2000), at(6000, 96)), api.OK)
	checks(t, of(at(10, 2000), at(3000, 2000), at(6000, 97)), api.ErrFull)
	var l []image.Section
	for n := range 16 {
		l = append(l, at(4096*n, 256))
	}
	checks(t, of(l...), api.OK)
	for n := range l {
		more := slices.Clone(l)
		more[n] = at(4096*n, 257)
		checks(t, of(more...), api.ErrFull)
		more[n] = at(4096*n, 4096)
		checks(t, of(more...), api.ErrFull)
	}
	// Ahead of what entries are.
	checks(t, image.Image{Sections: []image.Section{at(0, 4096), at(4096, 1)}, Entries: []int{9999}}, api.ErrFull)
}

// P18.1: entries.
func TestEntries(t *testing.T) {
	for n := range 20 {
		e := api.OK
		if n > 16 {
			e = api.ErrFull
		}
		checks(t, entered(5, make([]int, n)...), e)
		checks(t, entered(5, slices.Repeat([]int{4, 0}, n)[:n]...), e)
	}
	checks(t, entered(5, slices.Repeat([]int{5}, 16)...), api.ErrRange)
	checks(t, entered(5, slices.Repeat([]int{5}, 17)...), api.ErrFull)
	two := []image.Section{at(3, 5), at(8, 2), at(20, 3), at(65535, 1)}
	for entry := -1; entry < 30; entry++ {
		e := api.ErrRange
		if entry >= 3 && entry < 10 || entry >= 20 && entry < 23 {
			e = api.OK
		}
		checks(t, image.Image{Sections: two, Entries: []int{entry}}, e)
		checks(t, image.Image{Sections: two, Entries: []int{4, 65535, 22, entry}}, e)
		checks(t, image.Image{Sections: two, Entries: []int{entry, 22, 4, 65535}}, e)
	}
	for _, entry := range []int{65534, 65536, math.MaxInt, math.MinInt, 1 << 32, 1<<32 + 3, -65533} {
		checks(t, image.Image{Sections: two, Entries: []int{entry}}, api.ErrRange)
	}
}

// P18.1: images of all sorts, by the chapter's words.
func TestAgainstTheChapter(t *testing.T) {
	dice := rand.New(rand.NewSource(1))
	met := map[api.Errno]int{}
	for range 5000 {
		i := some(dice)
		e := slowCheck(i)
		checks(t, i, e)
		met[e]++
		if t.Failed() {
			return
		}
	}
	for _, e := range []api.Errno{api.OK, api.ErrRange, api.ErrOrder} {
		if met[e] < 50 {
			t.Errorf("the error %d was met only %d times", e, met[e])
		}
	}
}
