package space_test

import (
	"math/rand"
	"slices"
	"testing"

	"monocoque/api"
	"monocoque/space"
)

// must makes a Space of areas that may be.
func must(t *testing.T, l ...space.Area) *space.Space {
	t.Helper()
	s, e := space.New(l)
	if s == nil || e != api.OK {
		t.Fatalf("New(%v) = %v, %d", l, s, e)
	}
	return s
}

// row returns that many areas of so many words each, one behind the other.
func row(areas, words int) (l []space.Area) {
	for i := range areas {
		l = append(l, space.Area{From: i * words, Words: words})
	}
	return l
}

// model is a plain Space: each word by its place.
type model struct {
	areas []space.Area
	words map[int]uint32
}

func newModel(l []space.Area) *model {
	m := &model{areas: slices.Clone(l), words: map[int]uint32{}}
	for _, a := range l {
		for n := range a.Words {
			m.words[a.From+n] = 0
		}
	}
	return m
}

// area returns the area of a place that has a word.
func (m *model) area(at int) space.Area {
	for _, a := range m.areas {
		if a.From <= at && at < a.From+a.Words {
			return a
		}
	}
	return space.Area{}
}

func (m *model) load(at int) (uint32, api.Errno) {
	w, ok := m.words[at]
	if !ok {
		return 0, api.ErrRange
	}
	return w, api.OK
}

func (m *model) fetch(at int) (uint32, api.Errno) {
	w, e := m.load(at)
	if e == api.OK && !m.area(at).Run {
		return 0, api.ErrRights
	}
	return w, e
}

func (m *model) store(at int, w uint32) api.Errno {
	if _, e := m.load(at); e != api.OK {
		return e
	}
	if !m.area(at).Write {
		return api.ErrRights
	}
	m.words[at] = w
	return api.OK
}

func (m *model) fill(at int, l []uint32) api.Errno {
	for i := range l {
		if _, e := m.load(at + i); e != api.OK {
			return e
		}
	}
	for i, w := range l {
		m.words[at+i] = w
	}
	return api.OK
}

func (m *model) fresh(keep bool) {
	for at := range m.words {
		if !keep || !m.area(at).Keep {
			m.words[at] = 0
		}
	}
}

func (m *model) all() (l []uint32) {
	for _, a := range m.areas {
		for n := range a.Words {
			l = append(l, m.words[a.From+n])
		}
	}
	return l
}

// agree tells whether the words and areas of both are the same.
func agree(t *testing.T, s *space.Space, m *model) {
	t.Helper()
	if got := s.Words(); !slices.Equal(got, m.all()) {
		t.Fatalf("Words() = %x, want %x", got, m.all())
	}
	if got := s.Areas(); !slices.Equal(got, m.areas) {
		t.Fatalf("Areas() = %v, want %v", got, m.areas)
	}
}

// some returns areas that may be, near each other and in any order.
func some(dice *rand.Rand) (l []space.Area) {
	at := dice.Intn(5)
	for range dice.Intn(7) {
		a := space.Area{From: at, Words: 1 + dice.Intn(5), Write: dice.Intn(2) == 0, Run: dice.Intn(2) == 0, Keep: dice.Intn(2) == 0}
		l = append(l, a)
		at += a.Words + dice.Intn(3)*dice.Intn(2)
	}
	dice.Shuffle(len(l), func(i, j int) { l[i], l[j] = l[j], l[i] })
	return l
}

// list returns up to so many random words.
func list(dice *rand.Rand, most int) []uint32 {
	l := make([]uint32, dice.Intn(most+1))
	for i := range l {
		l[i] = dice.Uint32()
	}
	return l
}
