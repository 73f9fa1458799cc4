package health_test

import (
	"math"
	"testing"

	"monocoque/api"
	"monocoque/book"
	"monocoque/health"
)

type (
	rule   = health.Rule
	action = health.Action
)

const (
	atProcess = book.LevelProcess
	atPart    = book.LevelPart
	atWhole   = book.LevelWhole
)

// wrongErrors are numbers that are no errors, whatever one cuts off.
var wrongErrors = []api.Errno{math.MinInt, -1 << 32, -256, -27, -1, 0, 28, 29, 32, 64, 256, 257, 1<<16 + 1, 1 << 32, 1<<32 + 1, math.MaxInt}

// far are numbers that are neither levels nor actions, whatever one cuts off.
var far = []int{math.MinInt, -1 << 32, -256, -3, -2, -1, 7, 8, 16, 255, 256, 1 << 16, 1 << 32, 1<<32 + 1, math.MaxInt}

// processes are those that there can be, and numbers for none.
var processes = []int{0, 1, 2, 31, 32, 255, 256, 1 << 31, 1 << 32, math.MaxInt - 1, math.MaxInt, -1, -2, -32, -1 << 32, math.MinInt}

// permitted tells whether a level is one of the module's rules, or of a partition's.
func permitted(module bool, level int) bool {
	return module && level == 2 || !module && (level == 0 || level == 1)
}

// actions are those that are possible at a level.
func actions(level int) []int {
	return [][]int{{0, 1, 2, 3}, {0, 1, 4, 5, 6}, {0, 1}}[level]
}

// of returns a monitor, whose rules may be.
func of(t *testing.T, module bool, rules ...rule) *health.Monitor {
	t.Helper()
	m, e := health.New(rules, module)
	if e != api.OK || m == nil {
		t.Fatalf("New(%v, %v) = %v, %d", rules, module, m, e)
	}
	return m
}

// refused tells whether New answers this error.
func refused(t *testing.T, want api.Errno, module bool, rules ...rule) {
	t.Helper()
	if m, e := health.New(rules, module); e != want || m != nil {
		t.Errorf("New(%v, %v) = %v, %d, want %d", rules, module, m, e, want)
	}
}

// decides tells what is done about an error, which is then counted once more.
func decides(t *testing.T, m *health.Monitor, process int, e api.Errno, level, do int) {
	t.Helper()
	n := m.Count(process, e)
	if got := m.Decide(process, e); got != (action{level, do}) {
		t.Errorf("Decide(%d, %d) = %v, want %d, %d", process, e, got, level, do)
	}
	counts(t, m, process, e, n+1)
}

// counts tells how often an error occurred.
func counts(t *testing.T, m *health.Monitor, process int, e api.Errno, want int) {
	t.Helper()
	if got := m.Count(process, e); got != want {
		t.Errorf("Count(%d, %d) = %d, want %d", process, e, got, want)
	}
}

// same tells whether two monitors are, from both sides.
func same(t *testing.T, a, b *health.Monitor, want bool) {
	t.Helper()
	if a.Same(b) != want || b.Same(a) != want {
		t.Errorf("Same is %v, %v, want %v", a.Same(b), b.Same(a), want)
	}
}

// met returns a monitor that has counted an error of each of these processes.
func met(m *health.Monitor, e api.Errno, processes ...int) *health.Monitor {
	for _, p := range processes {
		m.Decide(p, e)
	}
	return m
}

// all returns rules for all errors at all levels of a partition, 54 of them.
func all() (l []rule) {
	for e := api.Errno(1); e <= 27; e++ {
		l = append(l, rule{e, atProcess, actions(0)[int(e)%4]}, rule{e, atPart, actions(1)[int(e)%5]})
	}
	return l
}
