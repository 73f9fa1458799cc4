package log_test

import (
	"bytes"
	"math/rand"
	"slices"
	"testing"

	"monocoque/api"
	"monocoque/log"
	"monocoque/store"
	"monocoque/wire"
)

func number(n uint64) []byte { return wire.PutVar(nil, n) }

// sample returns a model of a log that has lost something.
func sample() model {
	m := modelOf(2, 1, 32)
	m.add(0, 5, 1, nil)
	m.add(0, 6, 1, []uint32{9})
	m.add(0, 300, 2, nil)
	m.add(2, last, 255, []uint32{1, 2, 3, 4, 5, 6, 7, 1<<32 - 1})
	m.add(2, 0, 0, nil)
	return m
}

// P36.2: the bytes, one by one.
func TestFlush(t *testing.T) {
	l := of(t, 2, 1)
	adds(t, l, 0, 5, 1)
	adds(t, l, 0, 6, 1, 9)
	adds(t, l, 0, 300, 2, 258, 1<<32-1)
	before := l.Clone()
	want := []byte{76, 2, 2, 3, 2, 6, 1, 1, 0, 0, 0, 9, 130, 44, 2, 2, 0, 0, 1, 2, 255, 255, 255, 255, 1, 0, 0}
	for range 2 {
		if b := l.Flush(); !bytes.Equal(b, wire.Seal(want)) {
			t.Errorf("Flush() = % x, want % x and a sum", b, want)
		}
		both(t, l, before, true)
	}
}

// The chapter's terms: a store has room for the bytes of any log.
func TestGreatest(t *testing.T) {
	l, m := full(t)
	m.matches(t, l)
	b := l.Flush()
	if len(b) > 21200 || len(b) < 21000 {
		t.Errorf("the greatest log has %d bytes", len(b))
	}
	s, _ := store.New(65536)
	if e := s.Write(b); e != api.OK {
		t.Errorf("Write of %d bytes = %d", len(b), e)
	}
	read, _ := s.Read()
	both(t, backs(t, read, m), l, true)
}

// P36.2: the errors of Open come first, whatever the contents are.
func TestErrorsOfOpen(t *testing.T) {
	b := wire.Seal(sample().contents())
	backs(t, b, sample())
	for n := range b {
		want := api.ErrSum
		if n < 4 {
			want = api.ErrShort
		}
		rejects(t, want, b[:n])
	}
	rejects(t, api.ErrShort, nil)
	rejects(t, api.ErrSum, append(bytes.Clone(b), 0))
	rejects(t, api.ErrSum, []byte{77, 1, 2, 3, 4})
	for bit := range 8 * len(b) {
		c := bytes.Clone(b)
		c[bit/8] ^= 1 << (bit % 8)
		rejects(t, api.ErrSum, c)
	}
}

// P36.2: the first byte.
func TestMark(t *testing.T) {
	rest := sample().contents()[1:]
	for c := range 256 {
		if c == 76 {
			continue
		}
		rejects(t, api.ErrForm, wire.Seal(append([]byte{byte(c)}, rest...)))
		rejects(t, api.ErrForm, wire.Seal([]byte{byte(c)}))
		rejects(t, api.ErrForm, wire.Seal([]byte{byte(c), 17}))
		rejects(t, api.ErrForm, wire.Seal([]byte{byte(c), 0}))
	}
	rejects(t, api.ErrForm, wire.Seal(nil))
	rejects(t, api.ErrShort, wire.Seal([]byte{76}))
}

// P36.2: contents that end too early, or are followed by bytes.
func TestTooFewAndTooMany(t *testing.T) {
	_, m := full(t)
	for _, m := range []model{sample(), modelOf(1), modelOf(slices.Repeat([]int{32}, 16)...), m[:2]} {
		b := m.contents()
		for n := 1; n < len(b); n++ {
			rejects(t, api.ErrShort, wire.Seal(b[:n]))
		}
		for _, rest := range [][]byte{{0}, {1}, {76}, {0x80}, {255, 255}, bytes.Repeat([]byte{255}, 20), b} {
			rejects(t, api.ErrForm, wire.Seal(slices.Concat(b, rest)))
		}
	}
}

// P36.2: the error of each number, where it is read, whatever follows.
func TestNumbers(t *testing.T) {
	join := func(l ...[]byte) []byte { return slices.Concat(l...) }
	long, endless := []byte{0x80, 1}, bytes.Repeat([]byte{255}, 10)
	one, word := []byte{1}, []byte{0, 0, 0, 1}
	part := []byte{5, 2, 2}  // a room of 5, and 2 entries
	entry := []byte{7, 8, 0} // an entry without words
	for _, c := range []struct {
		e    api.Errno
		read []byte
	}{
		// The number of partitions.
		{api.ErrRange, []byte{0}},
		{api.ErrRange, []byte{17}},
		{api.ErrRange, number(1 << 32)},
		{api.ErrForm, long},
		{api.ErrForm, endless},
		// A room.
		{api.ErrRange, join(one, []byte{0})},
		{api.ErrRange, join(one, []byte{33})},
		{api.ErrRange, join(one, number(1<<32+5))},
		{api.ErrForm, join(one, long)},
		{api.ErrRange, []byte{2, 32, 0, 0, 0}},
		{api.ErrRange, []byte{2, 32, 0, 0, 33}},
		// How many entries were ever added.
		{api.ErrRange, join(one, []byte{5}, number(last+1))},
		{api.ErrRange, join(one, []byte{5}, number(1<<63))},
		{api.ErrForm, join(one, []byte{5}, long)},
		// How many entries are present.
		{api.ErrRange, join(one, []byte{5, 5, 33})},
		{api.ErrRange, join(one, []byte{5}, number(last), []byte{33})},
		{api.ErrRange, join(one, []byte{5, 5}, number(1<<32+5))},
		{api.ErrForm, join(one, []byte{5, 5}, long)},
		{api.ErrForm, join(one, []byte{5, 5, 4})},
		{api.ErrForm, join(one, []byte{5, 5, 6})},
		{api.ErrForm, join(one, []byte{5, 5, 32})},
		{api.ErrForm, join(one, []byte{5, 4, 5})},
		{api.ErrForm, join(one, []byte{5, 4, 3})},
		{api.ErrForm, join(one, []byte{5, 6, 4})},
		{api.ErrForm, join(one, []byte{5, 6, 6})},
		{api.ErrForm, join(one, []byte{5, 6, 0})},
		{api.ErrForm, join(one, []byte{5, 0, 1})},
		{api.ErrForm, join(one, []byte{5, 0, 5})},
		{api.ErrForm, join(one, []byte{32}, number(last), []byte{31})},
		{api.ErrForm, join(one, []byte{31}, number(last), []byte{32})},
		{api.ErrForm, []byte{2, 5, 0, 0, 5, 0, 1}},
		// A tick.
		{api.ErrRange, join(one, part, number(last+1))},
		{api.ErrRange, join(one, part, number(1<<63))},
		{api.ErrForm, join(one, part, long)},
		{api.ErrRange, join(one, part, entry, number(last+1))},
		// A kind.
		{api.ErrRange, join(one, part, number(last), number(256))},
		{api.ErrRange, join(one, part, number(7), number(1<<32))},
		{api.ErrForm, join(one, part, number(7), long)},
		{api.ErrRange, join(one, part, entry, number(7), number(256))},
		// A number of words.
		{api.ErrRange, join(one, part, number(7), number(255), []byte{9})},
		{api.ErrRange, join(one, part, number(7), number(255), number(1<<32))},
		{api.ErrForm, join(one, part, number(7), number(255), long)},
		{api.ErrRange, join(one, part, entry, number(7), number(255), []byte{9})},
		{api.ErrRange, join([]byte{2}, part, []byte{7, 8, 1}, word, entry, []byte{33})},
	} {
		for _, rest := range [][]byte{{}, {0}, {255}, endless, {0, 0, 0, 0, 0, 0, 0, 0, 0, 0}, sample().contents()} {
			rejects(t, c.e, wire.Seal(join([]byte{76}, c.read, rest)))
		}
		// One byte less is too few.
		if n := len(c.read) - 1; c.read[n] < 128 && (n == 0 || c.read[n-1] >= 128) {
			rejects(t, api.ErrShort, wire.Seal(join([]byte{76}, c.read[:n])))
		}
	}
}

// slowBack is what the chapter says of Back, read by read.
func slowBack(b []byte) (model, api.Errno) {
	b, e := wire.Open(b)
	if e != api.OK {
		return nil, e
	}
	if len(b) == 0 || b[0] != 76 {
		return nil, api.ErrForm
	}
	r := wire.NewReader(b[1:])
	count := r.Var(16)
	if r.Err() == api.OK && count == 0 {
		return nil, api.ErrRange
	}
	var m model
	for i := range count {
		room := r.Var(32)
		if r.Err() == api.OK && room == 0 {
			return nil, api.ErrRange
		}
		added := r.Var(last)
		present := r.Var(32)
		if r.Err() == api.OK && present != min(room, added) {
			return nil, api.ErrForm
		}
		if r.Err() != api.OK {
			return nil, r.Err()
		}
		m = append(m, history{room: int(room), before: int(added - present)})
		for range present {
			tick, kind := int(r.Var(last)), int(r.Var(255))
			var words []uint32
			for range r.Var(8) {
				words = append(words, r.Word())
			}
			m.add(int(i), tick, kind, words)
		}
	}
	if r.Err() != api.OK {
		return nil, r.Err()
	}
	if r.Left() > 0 {
		return nil, api.ErrForm
	}
	return m, api.OK
}

// mangled returns contents in which something is another one.
func mangled(dice *rand.Rand, b []byte) []byte {
	b = bytes.Clone(b)
	at := dice.Intn(len(b))
	switch dice.Intn(4) {
	case 0:
		b[at] = byte(dice.Intn(256))
	case 1:
		b[at] += byte(dice.Intn(3)) - 1
	case 2:
		b = slices.Delete(b, at, min(at+1+dice.Intn(4), len(b)))
	default:
		b = slices.Insert(b, at, byte(dice.Intn(256)))
	}
	return b
}

// P36.2 and P36.4: bytes of all sorts; those that are read back are flushed as they were.
func TestBackAgainstTheChapter(t *testing.T) {
	dice := rand.New(rand.NewSource(362))
	met := map[api.Errno]int{}
	for range 20000 {
		m := modelOf([]int{1 + dice.Intn(4), 1 + dice.Intn(33), 1 + dice.Intn(2)}[:1+dice.Intn(3)]...)
		for i := range m {
			m[i].before = dice.Intn(2) * dice.Intn(1<<dice.Intn(40))
			n := dice.Intn(8)
			if m[i].before > 0 {
				n = max(n, m[i].room) // none of these is lost unless there is no room
			}
			for range n {
				m.add(i, dice.Intn(1<<dice.Intn(41)), dice.Intn(256), some(dice))
			}
			if len(m[i].all) < m[i].room {
				m[i].before = 0
				for k := range m[i].all {
					m[i].all[k].Number = k
				}
			}
		}
		b := m.contents()
		for range dice.Intn(4) {
			if b = mangled(dice, b); len(b) == 0 {
				b = []byte{76}
			}
		}
		b = wire.Seal(b)
		want, e := slowBack(b)
		met[e]++
		if e != api.OK {
			rejects(t, e, b)
		} else if l := backs(t, b, want); !bytes.Equal(l.Flush(), b) {
			t.Errorf("Flush() = % x, want % x", l.Flush(), b)
		}
		if t.Failed() {
			t.FailNow()
		}
	}
	if min(met[api.OK], met[api.ErrForm], met[api.ErrRange], met[api.ErrShort]) < 500 {
		t.Error("nothing was tried:", met)
	}
}

// P36.4: a log that was read back goes on as the one that was flushed, with numbers up to the greatest one.
func TestOn(t *testing.T) {
	for _, before := range []int{0, 1, 127, 1 << 20, 1<<32 - 3, last - 8} {
		m := model{{room: 3, before: before}, {room: 1}}
		for n := range 3 {
			m.add(0, n, 1, nil)
		}
		l := backs(t, wire.Seal(m.contents()), m)
		for n := range 5 {
			adds(t, l, 0, n, 2, 3)
			m.add(0, n, 2, []uint32{3})
			m.matches(t, l)
			consecutive(t, l, 0)
			both(t, l, backs(t, l.Flush(), m), true)
		}
	}
}

// T20: power fails at any cell while the log is flushed into a store; it is as it was last flushed completely.
func TestPowerFailures(t *testing.T) {
	dice := rand.New(rand.NewSource(20))
	for range 30 {
		l := of(t, 3, 2, 4)
		s, _ := store.New(1000)
		s.Write(l.Flush())
		flushed := l.Clone()
		for range 30 {
			for range dice.Intn(4) {
				l.Add(dice.Intn(3), dice.Intn(1<<20), dice.Intn(256), some(dice))
			}
			b := l.Flush()
			s.Begin(b)
			for range dice.Intn(len(b) + 40) {
				s.Step()
			}
			if !s.Busy() {
				flushed = l.Clone()
			}
			s, _ = store.Open(s.Cells())
			block, e := s.Read()
			if e != api.OK {
				t.Fatalf("Read() = %d", e)
			}
			if l, e = log.Back(block); e != api.OK || !l.Same(flushed) {
				t.Fatalf("Back = %v, %d, want %v", l, e, flushed)
			}
		}
	}
}
