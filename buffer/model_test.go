package buffer_test

import (
	"cmp"
	"math/rand"
	"slices"
	"testing"

	"monocoque/api"
	"monocoque/buffer"
)

// one is an id that waits.
type one struct {
	id, priority int
	sender       bool
	m            []uint32
}

// model is a buffer by the definition: its messages, and all who wait as they came.
type model struct {
	words, room int
	byPriority  bool
	messages    [][]uint32
	came        []one
}

func (m *model) line() []one {
	l := slices.Clone(m.came)
	if m.byPriority {
		slices.SortStableFunc(l, func(a, b one) int { return cmp.Compare(b.priority, a.priority) })
	}
	return l
}

func (m *model) drop(id int) bool {
	before := len(m.came)
	m.came = slices.DeleteFunc(m.came, func(w one) bool { return w.id == id })
	return len(m.came) < before
}

func (m *model) waits(id int) bool {
	return slices.ContainsFunc(m.came, func(w one) bool { return w.id == id })
}

// first takes the first one that waits, as a sender or as a receiver.
func (m *model) first(sender bool) (one, bool) {
	l := m.line()
	if len(l) == 0 || l[0].sender != sender {
		return one{}, false
	}
	m.drop(l[0].id)
	return l[0], true
}

func (m *model) send(id, priority int, words []uint32) (buffer.Done, api.Errno) {
	if id < 0 || len(words) > m.words {
		return buffer.Done{}, api.ErrRange
	}
	if m.waits(id) {
		return buffer.Done{}, api.ErrState
	}
	if receiver, ok := m.first(false); ok {
		return buffer.Done{Now: true, M: words, Woken: receiver.id}, api.OK
	}
	if len(m.messages) < m.room {
		m.messages = append(m.messages, words)
		return buffer.Done{Now: true, Woken: nobody}, api.OK
	}
	m.came = append(m.came, one{id, priority, true, words})
	return buffer.Done{Woken: nobody}, api.OK
}

func (m *model) receive(id, priority int) (buffer.Done, api.Errno) {
	if id < 0 {
		return buffer.Done{}, api.ErrRange
	}
	if m.waits(id) {
		return buffer.Done{}, api.ErrState
	}
	if len(m.messages) == 0 {
		m.came = append(m.came, one{id, priority, false, nil})
		return buffer.Done{Woken: nobody}, api.OK
	}
	d := buffer.Done{Now: true, M: m.messages[0], Woken: nobody}
	m.messages = m.messages[1:]
	if sender, ok := m.first(true); ok {
		m.messages = append(slices.Clip(m.messages), sender.m)
		d.Woken = sender.id
	}
	return d, api.OK
}

// made returns a buffer that was made anew as the model is.
func (m *model) made(t *testing.T) *buffer.Buffer {
	t.Helper()
	b := of(t, m.words, m.room, m.byPriority)
	enters(t, b, 99, m.messages...)
	for _, w := range m.came {
		if w.sender {
			stays(t, b, w.id, w.priority, w.m...)
		} else {
			asks(t, b, w.id, w.priority)
		}
	}
	return b
}

// matches tells whether a buffer is what the model is, by each method that tells of it.
func (m *model) matches(t *testing.T, b *buffer.Buffer) {
	t.Helper()
	holds(t, b, m.messages...)
	var ids []int
	senders := false
	for _, w := range m.line() {
		ids = append(ids, w.id)
		senders = w.sender
	}
	line(t, b, senders, ids...)
	if x := m.made(t); !b.Same(x) || !x.Same(b) {
		t.Error("one that was made anew is not the same")
	}
}

// message returns some words, seldom too many.
func (m *model) message(dice *rand.Rand) []uint32 {
	l := make([]uint32, dice.Intn(m.words+1))
	if dice.Intn(20) == 0 {
		l = make([]uint32, m.words+1)
	}
	for i := range l {
		l[i] = dice.Uint32()
	}
	return l
}

// P24.2 to P24.4: any calls in any order, against the definition.
func TestAgainstTheDefinition(t *testing.T) {
	dice := rand.New(rand.NewSource(24))
	for range 800 {
		m := &model{words: 1 + dice.Intn(4), room: 1 + dice.Intn(4), byPriority: dice.Intn(2) == 0}
		b := m.made(t)
		more := 2 + dice.Intn(7) // how often one sends, of ten calls
		for range 120 {
			id, priority := dice.Intn(9)-dice.Intn(2), dice.Intn(5)-2
			switch n := dice.Intn(12); {
			case n == 0:
				if got, want := b.Drop(id), m.drop(id); got != want {
					t.Fatalf("Drop(%d) = %v", id, got)
				}
			case n == 1:
				b = b.Clone()
			case n-2 < more:
				l := m.message(dice)
				d, e := b.Send(id, priority, l)
				if want, f := m.send(id, priority, slices.Clone(l)); e != f || !equal(d, want) {
					t.Fatalf("Send(%d, %d, %v) = %v, %d, want %v, %d", id, priority, l, d, e, want, f)
				}
				spoil(l)
				spoil(d.M)
			default:
				d, e := b.Receive(id, priority)
				if want, f := m.receive(id, priority); e != f || !equal(d, want) {
					t.Fatalf("Receive(%d, %d) = %v, %d, want %v, %d", id, priority, d, e, want, f)
				}
				spoil(d.M)
			}
			m.matches(t, b)
			if t.Failed() {
				t.FailNow()
			}
		}
	}
}

// P24.5: messages are received in the order in which they entered, each of them once, and none that was dropped; with a
// single priority, or by arrival, they enter in the order of the calls of Send.
func TestConsequences(t *testing.T) {
	dice := rand.New(rand.NewSource(5))
	received := 0
	for range 400 {
		byPriority := dice.Intn(2) == 0
		b := of(t, 1, 1+dice.Intn(4), byPriority)
		var inside []uint32 // numbers of messages, in the order of the calls of Send
		staying := map[int]uint32{}
		number := uint32(0)
		out := func(m []uint32) {
			if len(inside) == 0 || len(m) != 1 || m[0] != inside[0] {
				t.Fatalf("%v is received, want the first of %v", m, inside)
			}
			inside = inside[1:]
			received++
		}
		for range 120 {
			id, priority := dice.Intn(8), 7
			if !byPriority {
				priority = dice.Intn(5)
			}
			switch dice.Intn(7) {
			case 0:
				if b.Drop(id) {
					inside = slices.DeleteFunc(inside, func(n uint32) bool { return n == staying[id] })
				}
				delete(staying, id)
			case 1, 2, 3:
				number++
				d, e := b.Send(id, priority, []uint32{number})
				if e != api.OK {
					continue
				}
				inside = append(inside, number)
				if d.Woken != nobody {
					out(d.M)
				} else if !d.Now {
					staying[id] = number
				}
			default:
				d, e := b.Receive(id, priority)
				if e == api.OK && d.Now {
					out(d.M)
					delete(staying, d.Woken)
				}
			}
			ids, senders := b.Waiting()
			if len(inside) != b.Len()+len(staying) || senders && len(ids) != len(staying) {
				t.Fatal(inside, b.All(), ids, staying)
			}
		}
	}
	if received < 10000 {
		t.Error("nothing was tried:", received)
	}
}

// The terms: senders wait only if there is no room, and receivers only if there is no message.
func TestWhoWaits(t *testing.T) {
	dice := rand.New(rand.NewSource(6))
	seen := [2]int{}
	for range 300 {
		room := 1 + dice.Intn(4)
		b := of(t, 1, room, dice.Intn(2) == 0)
		for range 100 {
			id, priority := dice.Intn(8), dice.Intn(3)
			switch dice.Intn(9) {
			case 0:
				b.Drop(id)
			case 1, 2, 3, 4:
				b.Send(id, priority, []uint32{1})
			default:
				b.Receive(id, priority)
			}
			ids, senders := b.Waiting()
			switch {
			case len(ids) == 0 && senders:
				t.Fatal("nobody waits")
			case len(ids) > 0 && senders:
				seen[0]++
				if b.Len() != room {
					t.Fatal("senders wait, and there is room")
				}
			case len(ids) > 0:
				seen[1]++
				if b.Len() != 0 {
					t.Fatal("receivers wait, and there are messages")
				}
			}
		}
	}
	if min(seen[0], seen[1]) < 1000 {
		t.Error("nothing was tried:", seen)
	}
}
