package sema_test

import (
	"cmp"
	"math/rand"
	"slices"
	"testing"

	"monocoque/api"
	"monocoque/sema"
)

// model is a semaphore by the definition: all who wait, with their priorities, as they came.
type model struct {
	count, most int
	byPriority  bool
	came        [][2]int
}

func (m *model) line() []int {
	l := slices.Clone(m.came)
	if m.byPriority {
		slices.SortStableFunc(l, func(a, b [2]int) int { return cmp.Compare(b[1], a[1]) })
	}
	var ids []int
	for _, x := range l {
		ids = append(ids, x[0])
	}
	return ids
}

func (m *model) drop(id int) bool {
	before := len(m.came)
	m.came = slices.DeleteFunc(m.came, func(x [2]int) bool { return x[0] == id })
	return len(m.came) < before
}

func (m *model) wait(id, priority int) bool {
	if slices.Contains(m.line(), id) {
		return false
	}
	if m.count > 0 {
		m.count--
		return true
	}
	m.came = append(m.came, [2]int{id, priority})
	return false
}

func (m *model) signal() (int, bool, api.Errno) {
	if l := m.line(); len(l) > 0 {
		m.drop(l[0])
		return l[0], true, api.OK
	}
	if m.count == m.most {
		return 0, false, api.ErrFull
	}
	m.count++
	return 0, false, api.OK
}

// made returns a semaphore that was made anew as the model is.
func (m *model) made(t *testing.T) *sema.Sema {
	s := of(t, m.count, m.most, m.byPriority)
	for _, x := range m.came {
		waits(t, s, x[0], x[1])
	}
	return s
}

// P22.1 to P22.4: any calls in any order, against the definition.
func TestAgainstTheDefinition(t *testing.T) {
	dice := rand.New(rand.NewSource(22))
	for range 800 {
		m := &model{most: 1 + dice.Intn(4), byPriority: dice.Intn(2) == 0}
		m.count = dice.Intn(m.most + 1)
		s := m.made(t)
		for range 120 {
			id, priority := dice.Intn(8)-2, dice.Intn(5)-2
			switch dice.Intn(9) {
			case 0:
				if got, want := s.Drop(id), m.drop(id); got != want {
					t.Fatalf("Drop(%d) = %v", id, got)
				}
			case 1:
				s = s.Clone()
			case 2, 3, 4:
				woken, is, e := s.Signal()
				if w, i, f := m.signal(); w != woken || i != is || e != f {
					t.Fatalf("Signal() = %d, %v, %d, want %d, %v, %d", woken, is, e, w, i, f)
				}
			default:
				if got, want := s.Wait(id, priority), m.wait(id, priority); got != want {
					t.Fatalf("Wait(%d, %d) = %v", id, priority, got)
				}
			}
			holds(t, s, m.count, m.line()...)
			if x := m.made(t); !s.Same(x) || !x.Same(s) {
				t.Error("one that was made anew is not the same")
			}
			if t.Failed() {
				t.FailNow()
			}
		}
	}
}

// P22.4: nobody waits while the count is not 0, nobody is woken more often than it came to wait, and the count is first,
// plus the signals that increased it, minus the waits that succeeded.
func TestConsequences(t *testing.T) {
	dice := rand.New(rand.NewSource(4))
	for range 300 {
		most := 1 + dice.Intn(3)
		first := dice.Intn(most + 1)
		s := of(t, first, most, dice.Intn(2) == 0)
		ups, downs := 0, 0
		for range 100 {
			if id := dice.Intn(6); dice.Intn(2) == 0 {
				if s.Wait(id, dice.Intn(3)) {
					downs++
				}
			} else {
				before := s.Waiting()
				woken, is, e := s.Signal()
				if is != (len(before) > 0) || is && (woken != before[0] || slices.Contains(s.Waiting(), woken)) {
					t.Fatalf("Signal() = %d, %v of %v", woken, is, before)
				}
				if !is && e == api.OK {
					ups++
				}
			}
			if s.Count() != first+ups-downs || s.Count() > most || s.Count() > 0 && len(s.Waiting()) > 0 {
				t.Fatal(s.Count(), first, ups, downs, s.Waiting())
			}
		}
	}
}
