package life_test

import (
	"math/rand"
	"testing"

	"monocoque/api"
	"monocoque/life"
)

// model is a Life by the definition.
type model struct{ restarts, mode, starts int }

func (m *model) do(action int) (bool, api.Errno) {
	switch {
	case action < 4 || action > 6:
		return false, api.ErrArg
	case m.mode == life.Idle:
		return false, api.ErrMode
	case action == 6:
		m.mode = life.Idle
		return false, api.OK
	case m.starts == m.restarts:
		m.mode = life.Idle
		return false, api.ErrFull
	}
	m.starts++
	if m.mode != life.Cold {
		m.mode = 6 - action // 4 is Warm, 5 is Cold
	}
	return true, api.OK
}

func (m *model) run() api.Errno {
	if m.mode == life.Idle || m.mode == life.Normal {
		return api.ErrMode
	}
	m.mode = life.Normal
	return api.OK
}

// P32.1 to P32.5: any calls in any order, against the definition; no more restarts than permitted, and Idle for good.
func TestAgainstTheDefinition(t *testing.T) {
	dice := rand.New(rand.NewSource(32))
	met := map[api.Errno]int{}
	for range 2000 {
		m := &model{dice.Intn(12), life.Cold, 0}
		l := of(t, m.restarts)
		sum := 0
		for range 40 {
			idle := l.Mode() == life.Idle
			switch n := dice.Intn(60); {
			case n == 0 && idle:
				l.Reset()
				m.mode, m.starts = life.Cold, 0
				idle, sum = false, 0
			case n < 5:
				l = l.Clone()
			case n < 25:
				if got, want := l.Run(), m.run(); got != want {
					t.Fatalf("Run() = %d, want %d", got, want)
				}
			default:
				action := 4 + dice.Intn(2)
				if n > 54 {
					action = dice.Intn(8)
				}
				wantYes, want := m.do(action)
				mode, yes, e := l.Do(action)
				if mode != m.mode || yes != wantYes || e != want {
					t.Fatalf("Do(%d) = %d, %v, %d, want %d, %v, %d", action, mode, yes, e, m.mode, wantYes, want)
				}
				if yes {
					sum++
				}
				met[e]++
			}
			is(t, l, m.mode, m.starts, m.restarts-m.starts)
			if sum > m.restarts || idle && l.Mode() != life.Idle || t.Failed() {
				t.Fatalf("%d restarts of %d", sum, m.restarts)
			}
		}
	}
	for _, e := range []api.Errno{api.OK, api.ErrArg, api.ErrMode, api.ErrFull} {
		if met[e] < 500 {
			t.Error("nothing was tried:", met)
		}
	}
}
