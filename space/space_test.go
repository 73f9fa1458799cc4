package space_test

import (
	"math"
	"math/rand"
	"slices"
	"testing"

	"monocoque/api"
	"monocoque/space"
)

// The chapter's example.
func TestExample(t *testing.T) {
	s := must(t, space.Area{From: 0, Words: 4, Run: true}, space.Area{From: 8, Words: 2, Write: true})
	if e := s.Fill(0, []uint32{5, 6}); e != api.OK {
		t.Error(e)
	}
	if w, e := s.Fetch(1); w != 6 || e != api.OK {
		t.Error(w, e)
	}
	if e := s.Store(1, 7); e != api.ErrRights {
		t.Error(e)
	}
	if e := s.Store(9, 7); e != api.OK {
		t.Error(e)
	}
	if w, e := s.Load(4); w != 0 || e != api.ErrRange {
		t.Error(w, e)
	}
	if w, e := s.Fetch(9); w != 0 || e != api.ErrRights {
		t.Error(w, e)
	}
	if l := s.Words(); !slices.Equal(l, []uint32{5, 6, 0, 0, 0, 7}) {
		t.Error(l)
	}
}

// P14.1: areas that may be, and areas that may not be, with the first error that applies.
func TestNew(t *testing.T) {
	rw := func(from, words int) space.Area { return space.Area{From: from, Words: words, Write: true, Run: true} }
	bad := rw(-1, 1)
	for name, c := range map[string]struct {
		l []space.Area
		e api.Errno
	}{
		"none":                {nil, api.OK},
		"empty":               {[]space.Area{}, api.OK},
		"16 areas":            {row(16, 256), api.OK},
		"17 areas":            {row(17, 1), api.ErrArg},
		"17 bad areas":        {slices.Repeat([]space.Area{bad}, 17), api.ErrArg},
		"17 too many":         {row(17, 4096), api.ErrArg},
		"negative from":       {[]space.Area{bad}, api.ErrRange},
		"least from":          {[]space.Area{rw(math.MinInt, 1)}, api.ErrRange},
		"least of both":       {[]space.Area{rw(math.MinInt, math.MinInt)}, api.ErrRange},
		"no words":            {[]space.Area{rw(0, 0)}, api.ErrRange},
		"negative words":      {[]space.Area{rw(0, -1)}, api.ErrRange},
		"least words":         {[]space.Area{rw(0, math.MinInt)}, api.ErrRange},
		"end is least":        {[]space.Area{rw(math.MaxInt, 1)}, api.ErrRange},
		"most of both":        {[]space.Area{rw(math.MaxInt, math.MaxInt)}, api.ErrRange},
		"most words":          {[]space.Area{rw(1, math.MaxInt)}, api.ErrRange},
		"wraps to the right":  {[]space.Area{rw(math.MaxInt, math.MaxInt), rw(5, 1)}, api.ErrRange},
		"last place":          {[]space.Area{rw(65535, 1)}, api.OK},
		"beyond last place":   {[]space.Area{rw(65536, 1)}, api.ErrRange},
		"ends at last place":  {[]space.Area{rw(61440, 4096)}, api.OK},
		"ends beyond":         {[]space.Area{rw(61441, 4096)}, api.ErrRange},
		"65536 words":         {[]space.Area{rw(0, 65536)}, api.ErrFull},
		"65537 words":         {[]space.Area{rw(0, 65537)}, api.ErrRange},
		"4096 words":          {[]space.Area{rw(7, 4096)}, api.OK},
		"4097 words":          {[]space.Area{rw(7, 4097)}, api.ErrFull},
		"4096 in all":         {[]space.Area{rw(5000, 4000), rw(0, 96)}, api.OK},
		"4097 in all":         {[]space.Area{rw(5000, 4000), rw(0, 97)}, api.ErrFull},
		"16 great areas":      {row(16, 4096), api.ErrFull},
		"range ahead of full": {[]space.Area{rw(0, 4097), rw(65536, 1)}, api.ErrRange},
		"range ahead of over": {[]space.Area{rw(0, 4), rw(2, 4), bad}, api.ErrRange},
		"full ahead of over":  {[]space.Area{rw(0, 4096), rw(0, 1)}, api.ErrFull},
		"same area":           {[]space.Area{rw(3, 4), rw(3, 4)}, api.ErrOver},
		"one word shared":     {[]space.Area{rw(3, 4), rw(6, 4)}, api.ErrOver},
		"shared in disorder":  {[]space.Area{rw(6, 4), rw(3, 4)}, api.ErrOver},
		"one in the other":    {[]space.Area{rw(0, 9), rw(4, 1)}, api.ErrOver},
		"the other in one":    {[]space.Area{rw(4, 1), rw(0, 9)}, api.ErrOver},
		"first and last":      {[]space.Area{rw(0, 4), rw(10, 4), rw(20, 4), rw(3, 1)}, api.ErrOver},
		"last two":            {[]space.Area{rw(0, 4), rw(10, 4), rw(20, 4), rw(23, 1)}, api.ErrOver},
		"one behind another":  {[]space.Area{rw(4, 4), rw(0, 4), rw(8, 1)}, api.OK},
		"other rights":        {[]space.Area{{From: 0, Words: 2, Write: true}, {From: 1, Words: 2, Run: true, Keep: true}}, api.ErrOver},
	} {
		kept := slices.Clone(c.l)
		s, e := space.New(c.l)
		if e != c.e || (s == nil) != (e != api.OK) {
			t.Errorf("%s: New = %v, %d, want %d", name, s, e, c.e)
		}
		if !slices.Equal(c.l, kept) {
			t.Errorf("%s: New changes its argument to %v", name, c.l)
		}
		if e == api.OK {
			agree(t, s, newModel(c.l))
		}
	}
}

// P14.1: each pair of areas within a few places, by their places one by one.
func TestOverlaps(t *testing.T) {
	for a := range 6 {
		for n := 1; n <= 6; n++ {
			for b := range 6 {
				for m := 1; m <= 6; m++ {
					shared := 0
					for p := range 12 {
						if a <= p && p < a+n && b <= p && p < b+m {
							shared++
						}
					}
					s, e := space.New([]space.Area{{From: a, Words: n}, {From: 20, Words: 1}, {From: b, Words: m}})
					if (shared > 0) != (e == api.ErrOver) || (s == nil) != (e != api.OK) || e != api.OK && e != api.ErrOver {
						t.Errorf("New of %d places from %d and %d from %d = %v, %d, but %d are shared", n, a, m, b, s, e, shared)
					}
				}
			}
		}
	}
}

// P14.2: the rights of areas, and the places at and beyond their ends.
func TestRights(t *testing.T) {
	for i := range 8 {
		a := space.Area{From: 10, Words: 3, Write: i&1 > 0, Run: i&2 > 0, Keep: i&4 > 0}
		s := must(t, space.Area{From: 0, Words: 2, Write: !a.Write, Run: !a.Run, Keep: !a.Keep}, a)
		m := newModel(s.Areas())
		for at := range 16 {
			holds(t, s, m, at)
			if got, want := s.Store(uint32(at), uint32(100+at)), m.store(at, uint32(100+at)); got != want {
				t.Errorf("with %v Store(%d) = %d, want %d", a, at, got, want)
			}
			agree(t, s, m)
			holds(t, s, m, at)
		}
	}
}

// holds tells whether Load and Fetch do what the chapter says at a place.
func holds(t *testing.T, s *space.Space, m *model, at int) {
	t.Helper()
	w, e := s.Load(uint32(at))
	if want, fault := m.load(at); w != want || e != fault {
		t.Errorf("Load(%d) = %x, %d, want %x, %d", at, w, e, want, fault)
	}
	w, e = s.Fetch(uint32(at))
	if want, fault := m.fetch(at); w != want || e != fault {
		t.Errorf("Fetch(%d) = %x, %d, want %x, %d", at, w, e, want, fault)
	}
}

// P14.2: places far away belong to no area, however they are counted.
func TestFarPlaces(t *testing.T) {
	s := must(t, space.Area{From: 0, Words: 1, Write: true, Run: true}, space.Area{From: 65535, Words: 1, Write: true, Run: true})
	if e := s.Fill(65535, []uint32{9}); e != api.OK {
		t.Error(e)
	}
	for _, at := range []uint32{1, 65534, 65536, 131071, 131072, 1<<31 - 1, 1 << 31, 1<<32 - 65536, 1<<32 - 1} {
		if w, e := s.Load(at); w != 0 || e != api.ErrRange {
			t.Errorf("Load(%d) = %d, %d", at, w, e)
		}
		if w, e := s.Fetch(at); w != 0 || e != api.ErrRange {
			t.Errorf("Fetch(%d) = %d, %d", at, w, e)
		}
		if e := s.Store(at, 7); e != api.ErrRange {
			t.Errorf("Store(%d) = %d", at, e)
		}
		if e := s.Fill(at, []uint32{7}); e != api.ErrRange {
			t.Errorf("Fill(%d) = %d", at, e)
		}
	}
	if l := s.Words(); !slices.Equal(l, []uint32{0, 9}) {
		t.Error(l)
	}
}

// P14.3: lists of each length from each place, over gaps and from area to area.
func TestFill(t *testing.T) {
	l := []space.Area{{From: 6, Words: 2}, {From: 2, Words: 4, Write: true}, {From: 10, Words: 3, Run: true, Keep: true}}
	for at := range 16 {
		for n := range 14 {
			s, m := must(t, l...), newModel(l)
			for from, x := range map[int][]uint32{2: {1, 2, 3, 4, 5, 6}, 10: {7, 8, 9}} {
				s.Fill(uint32(from), x)
				m.fill(from, x)
			}
			words := []uint32{}
			for i := range n {
				words = append(words, 0xFFFFFF00+uint32(i))
			}
			kept := slices.Clone(words)
			if got, want := s.Fill(uint32(at), words), m.fill(at, words); got != want {
				t.Errorf("Fill(%d, %d words) = %d, want %d", at, n, got, want)
			}
			agree(t, s, m)
			if !slices.Equal(words, kept) {
				t.Error("Fill changes its argument")
			}
			if n > 0 { // the words are not those of the list
				words[0] = 77
				agree(t, s, m)
			}
		}
	}
}

// P14.3: nothing is wrong with no words, wherever they are; places do not begin anew behind the last one.
func TestFillEnds(t *testing.T) {
	whole := must(t, space.Area{From: 0, Words: 4096})
	if e := whole.Fill(0, slices.Repeat([]uint32{8}, 4096)); e != api.OK || !slices.Equal(whole.Words(), slices.Repeat([]uint32{8}, 4096)) {
		t.Error(e)
	}
	for _, s := range []*space.Space{must(t), whole, must(t, space.Area{From: 65535, Words: 1})} {
		before := s.Words()
		for _, at := range []uint32{0, 1, 5, 4096, 65535, 65536, 1 << 31, 1<<32 - 1} {
			if s.Fill(at, nil) != api.OK || s.Fill(at, []uint32{}) != api.OK {
				t.Errorf("Fill of nothing at %d returns an error", at)
			}
		}
		for _, c := range []struct {
			at uint32
			n  int
		}{{1<<32 - 1, 1}, {1<<32 - 1, 2}, {1<<32 - 1, 4097}, {1<<32 - 2, 3}, {1 << 31, 1}, {1, 4096}, {0, 4097}, {0, 70000}, {65535, 2}, {65535, 100000}} {
			if e := s.Fill(c.at, slices.Repeat([]uint32{9}, c.n)); e != api.ErrRange {
				t.Errorf("Fill(%d, %d words) = %d", c.at, c.n, e)
			}
		}
		if !slices.Equal(s.Words(), before) {
			t.Error("Fill with an error changes words")
		}
	}
}

// P14.4: which words are preserved.
func TestFresh(t *testing.T) {
	l := []space.Area{{From: 5, Words: 2, Keep: true}, {From: 0, Words: 3, Write: true, Run: true}, {From: 3, Words: 2, Write: true, Keep: true}, {From: 9, Words: 1}}
	for _, c := range []struct {
		keep bool
		want []uint32
	}{{true, []uint32{1, 2, 0, 0, 0, 6, 7, 0}}, {false, make([]uint32, 8)}} {
		s := must(t, l...)
		s.Fill(0, []uint32{3, 4, 5, 6, 7, 1, 2})
		s.Fill(9, []uint32{8})
		if got := s.Words(); !slices.Equal(got, []uint32{1, 2, 3, 4, 5, 6, 7, 8}) {
			t.Fatal(got)
		}
		for range 2 {
			s.Fresh(c.keep)
			if got := s.Words(); !slices.Equal(got, c.want) {
				t.Errorf("after Fresh(%v): %v, want %v", c.keep, got, c.want)
			}
			if !slices.Equal(s.Areas(), l) {
				t.Errorf("after Fresh(%v): %v", c.keep, s.Areas())
			}
		}
	}
}

// P14.4: each field of an area, the order of areas and each word make a difference.
func TestSame(t *testing.T) {
	l := []space.Area{{From: 4, Words: 2, Write: true}, {From: 0, Words: 3, Run: true}}
	one := func(change func(l []space.Area)) *space.Space {
		o := slices.Clone(l)
		change(o)
		return must(t, o...)
	}
	s := must(t, l...)
	for name, o := range map[string]*space.Space{
		"from":   one(func(l []space.Area) { l[0].From = 3 }),
		"words":  one(func(l []space.Area) { l[0].Words, l[1].Words = 3, 2 }),
		"write":  one(func(l []space.Area) { l[0].Write = false }),
		"run":    one(func(l []space.Area) { l[1].Run = false }),
		"keep":   one(func(l []space.Area) { l[1].Keep = true }),
		"order":  one(slices.Reverse[[]space.Area]),
		"fewer":  must(t, l[:1]...),
		"more":   must(t, append(slices.Clone(l), space.Area{From: 9, Words: 1})...),
		"none":   must(t),
		"a word": one(func([]space.Area) {}),
		"nil":    nil,
	} {
		if name == "a word" {
			o.Fill(2, []uint32{1})
		}
		if s.Same(o) || o.Same(s) {
			t.Errorf("with another %s both are the same", name)
		}
	}
	o := must(t, l...)
	if !s.Same(s) || !s.Same(o) || !o.Same(s) || !must(t).Same(must(t)) {
		t.Error("equal ones are not the same")
	}
	for i := range 5 {
		at := []uint32{4, 5, 0, 1, 2}[i]
		s.Fill(at, []uint32{1})
		if s.Same(o) {
			t.Errorf("the word at %d makes no difference", at)
		}
		o.Fill(at, []uint32{1})
		if !s.Same(o) {
			t.Errorf("with equal words at %d they are not the same", at)
		}
	}
	o.Fresh(false)
	if must(t, l...).Same(s) || !must(t, l...).Same(o) {
		t.Error("reset is not as made")
	}
}

// P14.4: a Space and its clone have no word in common.
func TestClone(t *testing.T) {
	s := must(t, space.Area{From: 0, Words: 2, Write: true}, space.Area{From: 2, Words: 2, Keep: true})
	s.Fill(0, []uint32{1, 2, 3, 4})
	c := s.Clone()
	if c == s || !c.Same(s) || !slices.Equal(c.Words(), []uint32{1, 2, 3, 4}) || !slices.Equal(c.Areas(), s.Areas()) {
		t.Errorf("Clone() = %v, want %v", c, s)
	}
	s.Store(0, 9)
	if !slices.Equal(c.Words(), []uint32{1, 2, 3, 4}) {
		t.Error("Store changes the clone", c.Words())
	}
	c.Fresh(true)
	if !slices.Equal(s.Words(), []uint32{9, 2, 3, 4}) || !slices.Equal(c.Words(), []uint32{0, 0, 3, 4}) {
		t.Error("Fresh of the clone", s.Words(), c.Words())
	}
	if e := must(t).Clone(); e == nil || !e.Same(must(t)) {
		t.Error("a clone without areas", e)
	}
}

// P14.5: nothing is shared with arguments, results and other Spaces.
func TestShared(t *testing.T) {
	l := []space.Area{{From: 0, Words: 2, Write: true}, {From: 5, Words: 1, Run: true}}
	s, o := must(t, l...), must(t, l...)
	m := newModel(l)
	l[0] = space.Area{From: 7, Words: 1}
	agree(t, s, m)
	s.Areas()[1] = space.Area{}
	agree(t, s, m)
	s.Words()[0] = 3
	agree(t, s, m)
	o.Store(0, 4)
	agree(t, s, m)
	a := s.Words()
	s.Store(0, 4)
	if !slices.Equal(a, []uint32{0, 0, 0}) {
		t.Error("Store changes an earlier result", a)
	}
}

// P14.4 and P14.5: a nil Space.
func TestNil(t *testing.T) {
	var s *space.Space
	for _, at := range []uint32{0, 1, 65535, 1<<32 - 1} {
		if w, e := s.Load(at); w != 0 || e != api.ErrRange {
			t.Error("Load", w, e)
		}
		if w, e := s.Fetch(at); w != 0 || e != api.ErrRange {
			t.Error("Fetch", w, e)
		}
		if e := s.Store(at, 1); e != api.ErrRange {
			t.Error("Store", e)
		}
		if s.Fill(at, []uint32{1}) != api.ErrRange || s.Fill(at, nil) != api.ErrRange {
			t.Error("Fill")
		}
	}
	s.Fresh(true)
	s.Fresh(false)
	if len(s.Areas()) != 0 || len(s.Words()) != 0 || s.Clone() != nil {
		t.Error("a nil Space has something")
	}
	if !s.Same(nil) || s.Same(must(t)) || must(t).Same(s) {
		t.Error("Same")
	}
}

// P14.1 to P14.4: many calls, held against a plain model.
func TestAgainstTheChapter(t *testing.T) {
	dice := rand.New(rand.NewSource(5))
	met := map[api.Errno]int{}
	for range 1500 {
		l := some(dice)
		s, m := must(t, l...), newModel(l)
		for range 40 {
			at := dice.Intn(40)
			if dice.Intn(30) == 0 {
				at = 1<<32 - 1 - dice.Intn(3)
			}
			switch dice.Intn(5) {
			case 0:
				w := dice.Uint32()
				got, want := s.Store(uint32(at), w), m.store(at, w)
				if got != want {
					t.Fatalf("of %v Store(%d) = %d, want %d", l, at, got, want)
				}
				met[got]++
			case 1:
				words := list(dice, 6)
				got, want := s.Fill(uint32(at), words), m.fill(at, words)
				if got != want {
					t.Fatalf("of %v Fill(%d, %v) = %d, want %d", l, at, words, got, want)
				}
				met[got]++
			case 2:
				holds(t, s, m, at)
			case 3:
				if keep := dice.Intn(2) == 0; dice.Intn(8) == 0 {
					s.Fresh(keep)
					m.fresh(keep)
				}
			case 4:
				c := s.Clone()
				c.Fill(uint32(at), list(dice, 2))
				if c.Same(s) != slices.Equal(c.Words(), s.Words()) {
					t.Fatalf("of %v Same does not tell whether the words are equal", l)
				}
			}
			agree(t, s, m)
		}
	}
	for _, e := range []api.Errno{api.OK, api.ErrRange, api.ErrRights} {
		if met[e] < 300 {
			t.Errorf("the error %d was met only %d times", e, met[e])
		}
	}
}
