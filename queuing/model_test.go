package queuing_test

import (
	"math/rand"
	"slices"
	"testing"

	"monocoque/api"
	"monocoque/queuing"
)

// model is a queue by the definition.
type model struct {
	words, room int
	l           [][]uint32
	lost        bool
}

func (m *model) long(x []uint32) bool { return len(x) > m.words }

// add adds messages, at the end or at the beginning.
func (m *model) add(front bool, full api.Errno, l ...[]uint32) api.Errno {
	switch {
	case slices.ContainsFunc(l, m.long):
		return api.ErrRange
	case len(m.l)+len(l) > m.room:
		m.lost = m.lost || full == api.ErrLost
		return full
	case front:
		m.l = slices.Concat(l, m.l)
	default:
		m.l = slices.Concat(m.l, l)
	}
	return api.OK
}

// made returns a queue that is the same, made anew.
func (m *model) made(t *testing.T) *queuing.Queue {
	q := of(t, m.words, m.room)
	if m.lost {
		for q.Free() > 0 {
			q.Send(nil)
		}
		q.Push(nil)
		q.Drain()
	}
	pushes(t, q, m.l...)
	return q
}

// matches tells whether a queue is what the model says.
func (m *model) matches(t *testing.T, q *queuing.Queue) {
	t.Helper()
	holds(t, q, m.room-len(m.l), m.l...)
	if x := m.made(t); !q.Same(x) || !x.Same(q) {
		t.Error("one that was made anew is not the same")
	}
}

// message returns some words, seldom too many.
func (m *model) message(dice *rand.Rand) []uint32 {
	l := make([]uint32, dice.Intn(m.words+1))
	if dice.Intn(20) == 0 {
		l = make([]uint32, m.words+1)
	}
	for i := range l {
		l[i] = dice.Uint32()
	}
	return l
}

// receive holds a Receive against the model.
func (m *model) receive(t *testing.T, q *queuing.Queue) {
	t.Helper()
	if len(m.l) == 0 {
		nothing(t, q, m.lost)
	} else {
		gets(t, q, m.lost, m.l[0]...)
		m.l = m.l[1:]
	}
	m.lost = false
}

// P27.1 to P27.3: any calls in any order, against the definition.
func TestAgainstTheDefinition(t *testing.T) {
	dice := rand.New(rand.NewSource(27))
	for range 600 {
		m := &model{words: 1 + dice.Intn(4), room: 1 + dice.Intn(5)}
		q := m.made(t)
		for range 100 {
			var got, want api.Errno
			switch x := m.message(dice); dice.Intn(12) {
			case 0:
				q = q.Clone()
			case 1:
				drains(t, q, m.l...)
				m.l = nil
			case 2:
				if dice.Intn(4) == 0 {
					q.Clear()
					m.l, m.lost = nil, false
				}
			case 3, 4:
				l := [][]uint32{x, m.message(dice), m.message(dice)}[:dice.Intn(4)]
				got, want = q.Back(l), m.add(true, api.ErrFull, l...)
			case 5, 6:
				got, want = q.Send(x), m.add(false, api.ErrFull, x)
			case 7, 8:
				got, want = q.Push(x), m.add(false, api.ErrLost, x)
			default:
				m.receive(t, q)
			}
			if got != want {
				t.Errorf("the error is %d, want %d", got, want)
			}
			m.matches(t, q)
			if t.Failed() {
				t.FailNow()
			}
		}
	}
}

// P27.4: messages go from one queue to another in the order in which they were sent, each of them once; what the goal
// has no room for goes back, and nothing is lost.
func TestConsequences(t *testing.T) {
	dice := rand.New(rand.NewSource(4))
	back := 0
	for range 400 {
		words := 1 + dice.Intn(3)
		from, to := of(t, words, 1+dice.Intn(6)), of(t, words, 1+dice.Intn(6))
		sent, received := uint32(0), uint32(0)
		receive := func() {
			m, is, lost := to.Receive()
			if lost || is != (len(m) > 0) || is && m[0] != received {
				t.Fatalf("Receive() = %v, %v, %v, want %d", m, is, lost, received)
			}
			if is {
				received++
			}
		}
		for range 60 {
			switch dice.Intn(4) {
			case 0, 1:
				if from.Send(slices.Repeat([]uint32{sent}, 1+dice.Intn(words))) == api.OK {
					sent++
				}
			case 2:
				receive()
			default:
				l := from.Drain()
				n := min(len(l), to.Free())
				pushes(t, to, l[:n]...)
				puts(t, from, l[n:]...)
				back += len(l) - n
			}
			if inside := uint32(len(from.All()) + len(to.All())); sent-received != inside {
				t.Fatalf("%d were sent, %d received, %d are inside", sent, received, inside)
			}
		}
		for received < sent {
			receive()
			l := from.Drain()
			n := min(len(l), to.Free())
			pushes(t, to, l[:n]...)
			puts(t, from, l[n:]...)
		}
		nothing(t, to, false)
	}
	if back < 1000 {
		t.Error("nothing was tried:", back)
	}
}

// P27.4: where the others are not put back, those that were pushed are received all the same, and the loss is told.
func TestWithoutBack(t *testing.T) {
	for room := 1; room <= 5; room++ {
		for n := range 8 {
			from, to := of(t, 1, 8), of(t, 1, room)
			for i := range n {
				sends(t, from, []uint32{uint32(i)})
			}
			for i, m := range from.Drain() {
				if e := to.Push(m); (e == api.OK) != (i < room) || e != api.OK && e != api.ErrLost {
					t.Errorf("Push(%v) = %d, with room %d", m, e, room)
				}
			}
			for i := range min(n, room) {
				gets(t, to, i == 0 && n > room, uint32(i))
			}
			nothing(t, to, false)
		}
	}
}
