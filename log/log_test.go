package log_test

import (
	"math"
	"math/rand"
	"slices"
	"testing"

	"monocoque/api"
	"monocoque/log"
)

// The chapter's example.
func TestExample(t *testing.T) {
	l := of(t, 2, 1)
	adds(t, l, 0, 5, 1)
	adds(t, l, 0, 6, 1, 9)
	adds(t, l, 0, 7, 2)
	has(t, l, 0, 1, log.Entry{Number: 1, Tick: 6, Kind: 1, Words: []uint32{9}}, log.Entry{Number: 2, Tick: 7, Kind: 2})
	has(t, l, 1, 0)
}

// P36.1: the number of partitions, and each room.
func TestNew(t *testing.T) {
	fails := func(want api.Errno, rooms ...int) {
		t.Helper()
		if l, e := log.New(rooms); l != nil || e != want {
			t.Errorf("New(%v) = %v, %d, want %d", rooms, l, e, want)
		}
	}
	fails(api.ErrRange)
	fails(api.ErrRange, []int{}...)
	bad := []int{math.MinInt, -32, -1, 0, 33, 64, 1 << 32, 1<<32 + 1, math.MaxInt}
	for n := 1; n <= 40; n++ {
		rooms := slices.Repeat([]int{32, 1, 7}, n)[:n]
		if n > 16 {
			fails(api.ErrFull, rooms...)
		} else {
			modelOf(rooms...).matches(t, of(t, rooms...))
		}
		for i := range rooms {
			for _, room := range bad {
				wrong := slices.Clone(rooms)
				wrong[i] = room
				// Too many partitions come first.
				if n > 16 {
					fails(api.ErrFull, wrong...)
				} else {
					fails(api.ErrRange, wrong...)
				}
			}
		}
	}
	fails(api.ErrFull, make([]int, 1000)...)
}

// P36.1: a partition keeps as many entries as it has room for, the latest ones.
func TestRooms(t *testing.T) {
	for room := 1; room <= 32; room++ {
		l, m := of(t, room, 32), modelOf(room, 32)
		m.matches(t, l)
		for n := range 70 {
			words := slices.Repeat([]uint32{uint32(n)}, n%9)
			adds(t, l, 0, 1000-n, n, words...)
			m.add(0, 1000-n, n, words)
			if n%5 == 0 {
				adds(t, l, 1, n, 3)
				m.add(1, n, 3, nil)
			}
			m.matches(t, l)
		}
	}
}

// P36.1: each argument of Add at and beyond its ends, and which of two errors is first.
func TestAdd(t *testing.T) {
	parts := []int{math.MinInt, -1, 0, 2, 3, 4, 16, 1 << 32, math.MaxInt}
	ticks := []int{math.MinInt, -last, -1, 0, 1, 1 << 32, 1 << 39, last - 1, last, last + 1, 1 << 41, math.MaxInt}
	kinds := []int{math.MinInt, -256, -1, 0, 1, 127, 128, 254, 255, 256, 1 << 32, math.MaxInt}
	lengths := []int{0, 1, 7, 8, 9, 16, 256, 1 << 16}
	l, m := of(t, 32, 1, 5), modelOf(32, 1, 5)
	for _, part := range parts {
		for _, tick := range ticks {
			for _, kind := range kinds {
				for _, n := range lengths {
					words := make([]uint32, n)
					if e := m.add(part, tick, kind, words); e != api.OK {
						refuses(t, l, e, part, tick, kind, words...)
					} else {
						adds(t, l, part, tick, kind, words...)
					}
				}
			}
		}
		m.matches(t, l)
	}
	for _, part := range parts {
		if part < 0 || part > 2 {
			has(t, l, part, 0)
		}
	}
}

// P36.3: a clone is equal and independent.
func TestClone(t *testing.T) {
	l, m := of(t, 2, 3), modelOf(2, 3)
	for n := range 10 {
		c := l.Clone()
		both(t, l, c, true)
		m.matches(t, c)
		adds(t, c, n%2, 77, 7)
		both(t, l, c, false)
		m.matches(t, l)
		c = l.Clone()
		adds(t, l, n%2, n, n, uint32(n))
		m.add(n%2, n, n, []uint32{uint32(n)})
		both(t, l, c, false)
		m.matches(t, l)
		adds(t, c, n%2, n, n, uint32(n))
		both(t, l, c, true)
		m.matches(t, c)
	}
}

// P36.3: rooms, entries with all that belongs to them, and how many are lost count for Same.
func TestSame(t *testing.T) {
	type call struct {
		part, tick, kind int
		words            []uint32
	}
	made := func(rooms []int, calls ...call) *log.Log {
		l := of(t, rooms...)
		for _, c := range calls {
			adds(t, l, c.part, c.tick, c.kind, c.words...)
		}
		return l
	}
	two, words := []int{2, 2}, []uint32{5, 6}
	base := call{0, 3, 4, words}
	logs := []*log.Log{
		of(t, 2), of(t, 3), of(t, 2, 2), of(t, 2, 3), of(t, 3, 2), of(t, 2, 2, 2),
		made(two, base),
		made(two, call{1, 3, 4, words}),
		made(two, call{0, 4, 4, words}),
		made(two, call{0, 3, 5, words}),
		made(two, call{0, 3, 4, []uint32{5, 7}}),
		made(two, call{0, 3, 4, []uint32{5}}),
		made(two, call{0, 3, 4, []uint32{5, 6, 0}}),
		made(two, call{0, 3, 4, nil}),
		made([]int{3, 2}, base),
		made(two, base, base),
		made(two, base, base, base),
		made(two, base, base, base, base),
		made(two, base, call{1, 3, 4, words}),
		made(two, base, call{0, 9, 9, nil}),
		made(two, call{0, 9, 9, nil}, base),
	}
	for i, a := range logs {
		for j, b := range logs {
			if a.Same(b) != (i == j) {
				t.Errorf("Same of %d and %d = %v", i, j, a.Same(b))
			}
		}
		both(t, a, a.Clone(), true)
		both(t, a, nil, false)
	}
	both(t, made(two, call{0, 1, 1, nil}), made(two, call{0, 1, 1, []uint32{}}), true)
	// What is lost makes no other difference than its number.
	both(t, made(two, call{0, 1, 1, nil}, base, base), made(two, call{0, 2, 2, words}, base, base), true)
}

// P36.3: nil logs.
func TestNil(t *testing.T) {
	var l *log.Log
	for _, part := range []int{-1, 0, 16} {
		for _, tick := range []int{-1, 0} {
			if e := l.Add(part, tick, 0, make([]uint32, 9)); e != api.ErrArg {
				t.Errorf("Add = %d", e)
			}
		}
		has(t, l, part, 0)
	}
	if l.Flush() != nil || l.Clone() != nil {
		t.Error("a nil log has something")
	}
	both(t, l, nil, true)
	both(t, l, of(t, 1), false)
}

// P36.3: memory is shared neither with arguments nor with results.
func TestMemory(t *testing.T) {
	rooms := []int{2, 3}
	l, _ := log.New(rooms)
	if !slices.Equal(rooms, []int{2, 3}) {
		t.Errorf("New changes the rooms to %v", rooms)
	}
	spoil(rooms)
	m := modelOf(2, 3)
	for n := range uint32(5) {
		words := append(make([]uint32, 0, 12), n, n+1, n+2)
		adds(t, l, 1, 4, 5, words...)
		if !slices.Equal(words[:12], append([]uint32{n, n + 1, n + 2}, make([]uint32, 9)...)) {
			t.Errorf("Add changes the words to %v", words[:12])
		}
		spoil(words)
		m.add(1, 4, 5, []uint32{n, n + 1, n + 2})
		m.matches(t, l)
		for _, e := range l.Of(1) {
			spoil(e.Words)
		}
		spoil(l.Of(1))
		m.matches(t, l)
		spoil(l.Flush())
		m.matches(t, l)
		c := l.Clone()
		for _, e := range c.Of(1) {
			spoil(e.Words)
		}
		b := l.Flush()
		back, _ := log.Back(b)
		spoil(b)
		m.matches(t, back)
	}
	// No two lists of one result share memory.
	for i, e := range l.Of(1) {
		if grown := append(e.Words, 9, 9, 9, 9); len(grown) != 7 {
			t.Error(i, grown)
		}
	}
	m.matches(t, l)
}

// P36.1 and P36.4: any calls in any order, against the definition; the entries of one partition do not affect those of
// another one, and have consecutive numbers.
func TestAgainstTheDefinition(t *testing.T) {
	dice := rand.New(rand.NewSource(36))
	met := map[api.Errno]int{}
	for range 300 {
		rooms := make([]int, 1+dice.Intn(5))
		for i := range rooms {
			rooms[i] = 1 + dice.Intn(8)
		}
		l, m := of(t, rooms...), modelOf(rooms...)
		for range 80 {
			part, tick, kind, words := dice.Intn(len(rooms)+1), dice.Intn(1<<dice.Intn(42)), dice.Intn(258)-1, some(dice)
			before := l.Clone()
			got, want := l.Add(part, tick, kind, words), m.add(part, tick, kind, slices.Clone(words))
			met[want]++
			if got != want {
				t.Fatalf("Add(%d, %d, %d, %v) = %d, want %d", part, tick, kind, words, got, want)
			}
			m.matches(t, l)
			both(t, l, before, want != api.OK)
			for i := range rooms {
				if i != part && !slices.EqualFunc(l.Of(i), before.Of(i), equal) {
					t.Fatalf("an entry of %d changes those of %d", part, i)
				}
				consecutive(t, l, i)
			}
			switch dice.Intn(6) {
			case 0:
				l = l.Clone()
			case 1:
				l = backs(t, l.Flush(), m)
			}
			if t.Failed() {
				t.FailNow()
			}
		}
	}
	if min(met[api.OK], met[api.ErrNone], met[api.ErrRange]) < 1000 {
		t.Error("nothing was tried:", met)
	}
}

// consecutive tells whether the entries of a partition have consecutive numbers, after those that are lost.
func consecutive(t *testing.T, l *log.Log, part int) {
	t.Helper()
	for i, e := range l.Of(part) {
		if e.Number != l.Lost(part)+i || e.Part != part {
			t.Errorf("entry %d of %d is %v, and %d are lost", i, part, e, l.Lost(part))
		}
	}
}
