package budget_test

import (
	"math/rand"
	"testing"

	"monocoque/budget"
)

// model is a server by the definition: what was charged in each of its periods.
type model struct {
	size, period, begin int
	charged             map[int]int
}

// start returns the tick at which the period of now begins.
func (m *model) start(now int) int {
	start := m.begin
	for start+m.period <= now {
		start += m.period
	}
	return start
}

// last returns where the last period begins in which something was charged, or a tick before all others.
func (m *model) last() int {
	last := -1
	for start := range m.charged {
		last = max(last, start)
	}
	return last
}

func (m *model) left(now int) int {
	start := m.start(now)
	if now < m.begin || start < m.last() {
		return 0
	}
	return min(m.size-m.charged[start], start+m.period-now)
}

func (m *model) charge(now, n int) int {
	n = min(max(n, 0), m.left(now))
	if n > 0 {
		m.charged[m.start(now)] += n
	}
	return n
}

// made returns a server that is the same, made anew.
func (m *model) made(t *testing.T) *budget.Server {
	s := from(t, m.size, m.period, m.begin)
	if last := m.last(); last >= 0 {
		charges(t, s, last, m.charged[last], m.charged[last])
	}
	return s
}

// matches tells whether a server is what the model says at some ticks.
func (m *model) matches(t *testing.T, s *budget.Server, dice *rand.Rand) {
	t.Helper()
	if x := m.made(t); !s.Same(x) || !x.Same(s) {
		t.Error("one that was made anew is not the same")
	}
	for range 4 {
		now := dice.Intn(80)
		leaves(t, s, now, m.left(now))
		if now < m.begin {
			follows(t, s, now, 0)
		} else {
			follows(t, s, now, m.start(now)+m.period)
		}
	}
}

// P30.1 to P30.3: any calls in any order, against the definition.
func TestAgainstTheDefinition(t *testing.T) {
	dice := rand.New(rand.NewSource(30))
	less, all := 0, 0
	for range 1000 {
		period := 1 + dice.Intn(12)
		m := &model{size: 1 + dice.Intn(period), period: period, charged: map[int]int{}}
		s := m.made(t)
		near := 0
		for range 60 {
			switch dice.Intn(20) {
			case 0:
				s = s.Clone()
			case 1:
				m.begin, m.charged = dice.Intn(20), map[int]int{}
				near = m.begin
				s.Reset(m.begin)
			default:
				now, n := max(near+dice.Intn(7)-2, 0), dice.Intn(8)-1
				near = now
				want := m.charge(now, n)
				charges(t, s, now, n, want)
				if want < n {
					less++
				} else {
					all++
				}
			}
			m.matches(t, s, dice)
			if t.Failed() {
				t.FailNow()
			}
		}
	}
	if min(less, all) < 5000 {
		t.Error("nothing was tried:", less, all)
	}
}

// P30.4: in no period more than size is charged, and who asks first, for no more than that, gets it.
func TestConsequences(t *testing.T) {
	dice := rand.New(rand.NewSource(4))
	first := 0
	for range 400 {
		period := 1 + dice.Intn(20)
		size, begin := 1+dice.Intn(period), dice.Intn(30)
		s := from(t, size, period, begin)
		sums := map[int]int{}
		for now := begin; now < begin+10*period; now += dice.Intn(4) {
			k := (now - begin) / period
			n := 1 + dice.Intn(period+2)
			_, asked := sums[k]
			got, _ := s.Charge(now, n)
			sums[k] += got
			if sums[k] > size {
				t.Fatalf("%d of %d are charged", sums[k], size)
			}
			if !asked && n <= min(size, s.Next(now)-now) {
				first++
				if got != n {
					t.Fatalf("the first one in a period asks at %d for %d and gets %d", now, n, got)
				}
			}
		}
	}
	if first < 500 {
		t.Error("nothing was tried:", first)
	}
}
