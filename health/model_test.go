package health_test

import (
	"math/rand"
	"slices"
	"testing"

	"monocoque/api"
)

// model is a monitor by the definition: its rules, and all that was decided, in order.
type model struct {
	module bool
	rules  []rule
	events [][2]int // error and process
}

// accepts returns the error of the rules.
func (m *model) accepts() api.Errno {
	if len(m.rules) > 64 {
		return api.ErrFull
	}
	for i, r := range m.rules {
		equal := func(x rule) bool { return x.Error == r.Error && x.Level == r.Level }
		switch {
		case r.Error < 1 || r.Error > 27 || !permitted(m.module, r.Level):
			return api.ErrRange
		case !slices.Contains(actions(r.Level), r.Do):
			return api.ErrArg
		case slices.ContainsFunc(m.rules[:i], equal):
			return api.ErrTwice
		}
	}
	return api.OK
}

func (m *model) event(process int, e api.Errno) [2]int {
	if m.module || process < 0 {
		process = -1
	}
	return [2]int{int(e), process}
}

func (m *model) count(process int, e api.Errno) (n int) {
	for _, x := range m.events {
		if x == m.event(process, e) {
			n++
		}
	}
	return n
}

func (m *model) rule(e api.Errno, level int) (int, bool) {
	for _, r := range m.rules {
		if r.Error == e && r.Level == level {
			return r.Do, true
		}
	}
	return 0, false
}

func (m *model) decide(process int, e api.Errno) action {
	if e < 1 || e > 27 {
		return action{}
	}
	m.events = append(m.events, m.event(process, e))
	if do, ok := m.rule(e, 2); ok {
		return action{2, do}
	}
	if m.module {
		return action{2, 1}
	}
	if do, ok := m.rule(e, 0); ok && process >= 0 {
		return action{0, do}
	}
	if do, ok := m.rule(e, 1); ok {
		return action{1, do}
	}
	if process >= 0 {
		return action{0, 2}
	}
	return action{1, 6}
}

// draw returns some rules, right ones most of the time.
func draw(dice *rand.Rand, module bool) (l []rule) {
	for _, i := range dice.Perm(15)[:dice.Intn(9)] {
		level := i % 3
		if dice.Intn(3) > 0 && module {
			level = 2
		}
		if dice.Intn(9) > 0 && !module {
			level %= 2
		}
		do := actions(level)[dice.Intn(len(actions(level)))]
		if dice.Intn(20) == 0 {
			do = dice.Intn(9) - 1
		}
		l = append(l, rule{api.Errno(1 + i/2), level, do})
		if dice.Intn(40) == 0 {
			l = append(l, rule{api.Errno(dice.Intn(40) - 5), level, do})
		}
	}
	return l
}

// P31.1 to P31.3: any rules and any calls in any order, against the definition.
func TestAgainstTheDefinition(t *testing.T) {
	dice := rand.New(rand.NewSource(31))
	made := map[api.Errno]int{}
	for range 3000 {
		m := &model{module: dice.Intn(2) == 0}
		m.rules = draw(dice, m.module)
		want := m.accepts()
		made[want]++
		if want != api.OK {
			refused(t, want, m.module, m.rules...)
			continue
		}
		h := of(t, m.module, m.rules...)
		for range 40 {
			process, e := dice.Intn(6)-2, api.Errno(dice.Intn(12)-1)
			switch dice.Intn(12) {
			case 0:
				h = h.Clone()
			case 1:
				if dice.Intn(4) == 0 {
					h.Reset()
					m.events = nil
				}
			default:
				if got, want := h.Decide(process, e), m.decide(process, e); got != want {
					t.Errorf("Decide(%d, %d) = %v, want %v, by %v", process, e, got, want, m.rules)
				}
			}
			process, e = dice.Intn(6)-2, api.Errno(dice.Intn(12)-1)
			counts(t, h, process, e, m.count(process, e))
		}
		o := of(t, m.module, m.rules...)
		for _, i := range dice.Perm(len(m.events)) {
			o.Decide(m.events[i][1], api.Errno(m.events[i][0]))
		}
		same(t, h, o, true)
		same(t, h, met(o, 27, 0), false)
		if t.Failed() {
			t.FailNow()
		}
	}
	for _, e := range []api.Errno{api.OK, api.ErrRange, api.ErrArg, api.ErrTwice} {
		if made[e] < 50 {
			t.Error("nothing was tried:", made)
		}
	}
}
