package log_test

import (
	"bytes"
	"math/rand"
	"slices"
	"testing"

	"monocoque/api"
	"monocoque/log"
	"monocoque/wire"
)

const last = 1 << 40 // the last tick, and the greatest number of entries

// of returns a log with these rooms, which there may be.
func of(t *testing.T, rooms ...int) *log.Log {
	t.Helper()
	l, e := log.New(rooms)
	if e != api.OK || l == nil {
		t.Fatalf("New(%v) = %v, %d", rooms, l, e)
	}
	return l
}

// adds adds an entry that may be.
func adds(t *testing.T, l *log.Log, part, tick, kind int, words ...uint32) {
	t.Helper()
	if e := l.Add(part, tick, kind, words); e != api.OK {
		t.Fatalf("Add(%d, %d, %d, %v) = %d", part, tick, kind, words, e)
	}
}

// refuses adds what is an error that changes nothing.
func refuses(t *testing.T, l *log.Log, want api.Errno, part, tick, kind int, words ...uint32) {
	t.Helper()
	before := l.Clone()
	if e := l.Add(part, tick, kind, words); e != want || !l.Same(before) {
		t.Errorf("Add(%d, %d, %d, %d words) = %d, want %d", part, tick, kind, len(words), e, want)
	}
}

func equal(a, b log.Entry) bool {
	return a.Part == b.Part && a.Number == b.Number && a.Tick == b.Tick && a.Kind == b.Kind && slices.Equal(a.Words, b.Words)
}

// has tells whether these are the entries of a partition, and so many are lost.
func has(t *testing.T, l *log.Log, part, lost int, want ...log.Entry) {
	t.Helper()
	if got := l.Of(part); !slices.EqualFunc(got, want, equal) {
		t.Errorf("Of(%d) = %v, want %v", part, got, want)
	}
	if got := l.Lost(part); got != lost {
		t.Errorf("Lost(%d) = %d, want %d", part, got, lost)
	}
}

// both tells whether two logs are the same, or not, whichever is asked.
func both(t *testing.T, a, b *log.Log, want bool) {
	t.Helper()
	if a.Same(b) != want || b.Same(a) != want {
		t.Errorf("Same = %v, %v, want %v", a.Same(b), b.Same(a), want)
	}
}

// history is a partition by the definition: its room, how many entries it had ahead of those that are noted, and these.
type history struct {
	room, before int
	all          []log.Entry
}

// model is a log by the definition.
type model []history

// modelOf returns a model without entries.
func modelOf(rooms ...int) (m model) {
	for _, room := range rooms {
		m = append(m, history{room: room})
	}
	return m
}

func (m model) add(part, tick, kind int, words []uint32) api.Errno {
	switch {
	case part < 0 || part >= len(m):
		return api.ErrNone
	case tick < 0 || tick > last || kind < 0 || kind > 255 || len(words) > 8:
		return api.ErrRange
	}
	h := &m[part]
	h.all = append(h.all, log.Entry{Part: part, Number: h.before + len(h.all), Tick: tick, Kind: kind, Words: words})
	return api.OK
}

// present returns the entries that are not lost.
func (h history) present() []log.Entry { return h.all[max(len(h.all)-h.room, 0):] }

func (h history) added() int { return h.before + len(h.all) }

// contents returns the bytes of the log, ahead of their sum.
func (m model) contents() []byte {
	var b bytes.Buffer
	number := func(n int) { b.Write(wire.PutVar(nil, uint64(n))) }
	b.WriteByte(76)
	number(len(m))
	for _, h := range m {
		number(h.room)
		number(h.added())
		number(len(h.present()))
		for _, e := range h.present() {
			number(e.Tick)
			number(e.Kind)
			number(len(e.Words))
			for _, w := range e.Words {
				b.Write([]byte{byte(w >> 24), byte(w >> 16), byte(w >> 8), byte(w)})
			}
		}
	}
	return b.Bytes()
}

// matches tells whether a log is what the model says.
func (m model) matches(t *testing.T, l *log.Log) {
	t.Helper()
	for i, h := range m {
		has(t, l, i, h.added()-len(h.present()), h.present()...)
	}
	has(t, l, -1, 0)
	has(t, l, len(m), 0)
	if got, want := l.Flush(), wire.Seal(m.contents()); !bytes.Equal(got, want) {
		t.Errorf("Flush() = % x, want % x", got, want)
	}
}

// some returns words, seldom too many.
func some(dice *rand.Rand) []uint32 {
	l := make([]uint32, dice.Intn(9))
	if dice.Intn(20) == 0 {
		l = make([]uint32, 9)
	}
	for i := range l {
		l[i] = dice.Uint32() >> dice.Intn(33)
	}
	return l
}

// full returns a log with as much of each thing as there can be, and the bytes of a model of it.
func full(t *testing.T) (*log.Log, model) {
	t.Helper()
	rooms := slices.Repeat([]int{32}, 16)
	m := modelOf(rooms...)
	for i := range m {
		m[i].before = last - 32
		for range 32 {
			m.add(i, last, 255, slices.Repeat([]uint32{1<<32 - 1}, 8))
		}
	}
	l, e := log.Back(wire.Seal(m.contents()))
	if e != api.OK || l == nil {
		t.Fatalf("Back = %v, %d", l, e)
	}
	return l, m
}

// backs tells whether Back returns a log that is what the model says.
func backs(t *testing.T, b []byte, m model) *log.Log {
	t.Helper()
	kept := bytes.Clone(b)
	l, e := log.Back(b)
	if e != api.OK || l == nil {
		t.Fatalf("Back(% x) = %v, %d", b, l, e)
	}
	if !bytes.Equal(b, kept) {
		t.Errorf("Back changes % x to % x", kept, b)
	}
	m.matches(t, l)
	return l
}

// rejects tells whether Back returns that error.
func rejects(t *testing.T, want api.Errno, b []byte) {
	t.Helper()
	kept := bytes.Clone(b)
	if l, e := log.Back(b); l != nil || e != want {
		t.Errorf("Back(% x) = %v, %d, want %d", b, l, e, want)
	}
	if !bytes.Equal(b, kept) {
		t.Errorf("Back changes % x to % x", kept, b)
	}
}

// spoil overwrites a list with all memory that belongs to it.
func spoil[T any](l []T) { clear(l[:cap(l)]) }
