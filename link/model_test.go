package link_test

import (
	"math/rand"
	"slices"
	"testing"

	"monocoque/api"
	"monocoque/link"
)

// taker is a receiver by the definition: its numbers are counted on beyond 255, from 255 on.
type taker struct {
	newest  int
	arrived map[int]bool // for numbers that are not older than the newest one by 64; the first ones all have
	lost    int
}

// next makes the next number the newest one.
func (m *taker) next() {
	m.newest++
	old := m.newest - 64
	if old > 255 && !m.arrived[old] {
		m.lost++
	}
}

// take receives the number of a frame.
func (m *taker) take(number int) api.Errno {
	distance := ((number-m.newest)%256 + 256) % 256
	full := m.newest + distance
	if distance > 127 {
		full -= 256
	}
	switch {
	case full <= m.newest-64:
		return api.ErrOld
	case full <= 255 || m.arrived[full]:
		return api.ErrTwice
	}
	for m.newest < full {
		m.next()
	}
	m.arrived[full] = true
	return api.OK
}

// P29.2: any numbers in any order, against the definition.
func TestReceiversAgainstTheDefinition(t *testing.T) {
	dice := rand.New(rand.NewSource(29))
	met := map[api.Errno]int{}
	for range 300 {
		r, m := receiver(t, 2), &taker{newest: 255, arrived: map[int]bool{}}
		near := []int{1, 3, 10, 70, 140, 256}[dice.Intn(6)] // how far the numbers are from the newest one
		for range 400 {
			number, net := (m.newest+dice.Intn(2*near+1)-near+256)%256, dice.Intn(2)
			words := []uint32{dice.Uint32(), dice.Uint32()}[:dice.Intn(3)]
			want := m.take(number)
			met[want]++
			if want == api.OK {
				takes(t, r, net, number, words...)
			} else {
				fails(t, r, want, net, number, words...)
			}
			lost(t, r, m.lost)
			if dice.Intn(20) == 0 {
				r = r.Clone()
			}
			if t.Failed() {
				t.FailNow()
			}
		}
	}
	if min(met[api.OK], met[api.ErrOld], met[api.ErrTwice]) < 1000 {
		t.Error("nothing was tried:", met)
	}
}

// giver is a sender by the definition.
type giver struct {
	gap, words, room int
	l                [][]uint32
	sent, last       int
}

func (m *giver) offer(x []uint32) api.Errno {
	switch {
	case len(x) > m.words:
		return api.ErrRange
	case len(m.l) >= m.room:
		return api.ErrFull
	}
	m.l = append(m.l, x)
	return api.OK
}

func (m *giver) may(now int) bool {
	free := m.sent == 0 || now-m.last >= m.gap && now > m.last
	return len(m.l) > 0 && now >= 0 && free
}

// P29.1: any calls in any order, against the definition.
func TestSendersAgainstTheDefinition(t *testing.T) {
	dice := rand.New(rand.NewSource(1))
	did := [2]int{}
	for range 300 {
		m := &giver{gap: dice.Intn(6), words: 1 + dice.Intn(3), room: 1 + dice.Intn(4)}
		s, now := sender(t, m.gap, m.words, m.room), 0
		for range 600 {
			now += dice.Intn(3)
			switch dice.Intn(5) {
			case 0, 1:
				x := make([]uint32, dice.Intn(m.words+2))
				for i := range x {
					x[i] = dice.Uint32()
				}
				if want := m.offer(x); want != api.OK {
					refuses(t, s, want, x...)
				} else {
					offers(t, s, x)
				}
			case 2:
				s = s.Clone()
			default:
				at := now
				if dice.Intn(9) == 0 {
					at -= dice.Intn(9) // back in time
				}
				if !m.may(at) {
					rests(t, s, at)
					did[0]++
					continue
				}
				sends(t, s, at, m.sent%256, m.l[0]...)
				m.l, m.last, m.sent = m.l[1:], at, m.sent+1
				did[1]++
			}
			if t.Failed() {
				t.FailNow()
			}
		}
	}
	if min(did[0], did[1]) < 10000 {
		t.Error("nothing was tried:", did)
	}
}

// transit is a frame on its way.
type transit struct {
	due int
	f   link.Frame
}

// P29.4: two networks, each of which loses and delays frames on its own: no two frames are sent closer together than
// the gap, and each one that arrives anywhere is taken once.
func TestConsequences(t *testing.T) {
	dice := rand.New(rand.NewSource(2))
	both, dropped := 0, 0
	for range 60 {
		gap := 1 + dice.Intn(4)
		s, r := sender(t, gap, 2, 8), receiver(t, 2)
		nets, loses := [link.Nets][]transit{}, dice.Intn(50)
		arrived, taken, next, last := map[uint32]int{}, map[uint32]int{}, uint32(0), -gap
		for now := range 3000 {
			if s.Offer([]uint32{next, ^next}) == api.OK {
				next++
			}
			if f, is := s.Step(now); is {
				if now-last < gap {
					t.Fatalf("frames are sent at %d and %d", last, now)
				}
				last = now
				for i := range nets {
					if dice.Intn(100) >= loses {
						c := link.Frame{Number: f.Number, Words: slices.Clone(f.Words)}
						nets[i] = append(nets[i], transit{now + dice.Intn(20*gap), c})
					}
				}
			}
			for i := range nets {
				nets[i] = slices.DeleteFunc(nets[i], func(x transit) bool {
					if x.due > now {
						return false
					}
					arrived[x.f.Words[0]]++
					if m, is, e := r.Take(i, x.f); is {
						if e != api.OK || !slices.Equal(m, x.f.Words) {
							t.Fatalf("Take(%d, %v) = %v, %d", i, x.f, m, e)
						}
						taken[m[0]]++
					} else if e != api.ErrTwice {
						t.Fatalf("Take(%d, %v) = %d", i, x.f, e)
					}
					return true
				})
			}
		}
		for i := range next {
			if taken[i] != min(arrived[i], 1) {
				t.Errorf("%d arrived %d times, and was taken %d times", i, arrived[i], taken[i])
			}
			both += arrived[i] / 2
			if arrived[i] == 0 {
				dropped++
			}
		}
	}
	if min(both, dropped) < 1000 {
		t.Error("nothing was tried:", both, dropped)
	}
}
