package health_test

import (
	"math"
	"slices"
	"testing"

	"monocoque/api"
	"monocoque/book"
	"monocoque/health"
)

// The chapter's example.
func TestExample(t *testing.T) {
	m := of(t, false, rule{api.ErrDivide, 0, book.RestartProcess}, rule{api.ErrStack, 1, book.ColdStart})
	decides(t, m, 3, api.ErrDivide, 0, book.RestartProcess)
	decides(t, m, 3, api.ErrStack, 1, book.ColdStart)
	decides(t, m, 3, api.ErrCode, 0, book.StopProcess)
	decides(t, m, -1, api.ErrCode, 1, book.Halt)
}

// P31.1: each action at each level, of a partition and of the module.
func TestRules(t *testing.T) {
	for _, module := range []bool{false, true} {
		for level := range 3 {
			for do := range 7 {
				switch r := (rule{api.ErrTime, level, do}); {
				case !permitted(module, level):
					refused(t, api.ErrRange, module, r)
				case !slices.Contains(actions(level), do):
					refused(t, api.ErrArg, module, r)
				default:
					decides(t, of(t, module, r), -level, api.ErrTime, level, do) // of process 0, or of none
				}
			}
			for _, do := range far {
				want := api.ErrArg
				if !permitted(module, level) {
					want = api.ErrRange
				}
				refused(t, want, module, rule{api.ErrTime, level, do})
			}
		}
		for _, level := range append(far, 3, 4, 5, 6) {
			for do := -1; do <= 7; do++ {
				refused(t, api.ErrRange, module, rule{api.ErrTime, level, do})
			}
		}
	}
}

// P31.1: which errors there are.
func TestErrors(t *testing.T) {
	for e := api.Errno(1); e <= 27; e++ {
		decides(t, of(t, false, rule{e, atProcess, book.Tell}), 0, e, atProcess, book.Tell)
		decides(t, of(t, false, rule{e, atPart, book.Tell}), -1, e, atPart, book.Tell)
		decides(t, of(t, true, rule{e, atWhole, book.Ignore}), 0, e, atWhole, book.Ignore)
	}
	for _, e := range wrongErrors {
		refused(t, api.ErrRange, false, rule{e, atProcess, book.Tell})
		refused(t, api.ErrRange, false, rule{e, atPart, book.Tell})
		refused(t, api.ErrRange, true, rule{e, atWhole, book.Tell})
		refused(t, api.ErrRange, false, rule{e, atProcess, 99}) // the error is listed ahead of the action
		refused(t, api.ErrRange, false, rule{1, atPart, book.Tell}, rule{e, atPart, book.Tell})
	}
}

// P31.1: there may be one rule for an error at a level.
func TestTwice(t *testing.T) {
	tell := rule{api.ErrStack, atProcess, book.Tell}
	refused(t, api.ErrTwice, false, tell, tell)
	refused(t, api.ErrTwice, false, tell, rule{api.ErrStack, atProcess, book.Ignore})
	refused(t, api.ErrTwice, false, tell, rule{api.ErrCode, atProcess, book.Tell}, rule{api.ErrStack, atPart, book.Halt}, tell)
	refused(t, api.ErrTwice, true, rule{api.ErrStack, atWhole, 1}, rule{api.ErrStack, atWhole, 0})
	refused(t, api.ErrArg, false, tell, rule{api.ErrStack, atProcess, book.Halt}) // is listed ahead
	refused(t, api.ErrRange, false, tell, rule{api.ErrStack, atWhole, book.Halt})
	of(t, false, tell, rule{api.ErrStack, atPart, book.Tell}, rule{api.ErrDivide, atProcess, book.Tell})
	for n := range all() {
		refused(t, api.ErrTwice, false, append(all(), all()[n])...)
	}
}

// P31.1: the first rule with an error counts.
func TestFirstRule(t *testing.T) {
	right, noRange, noArg := rule{1, atPart, book.Tell}, rule{2, atWhole, book.Tell}, rule{2, atPart, book.StopProcess}
	refused(t, api.ErrRange, false, noRange, noArg, right, right)
	refused(t, api.ErrArg, false, noArg, noRange, right, right)
	refused(t, api.ErrArg, false, right, noArg, right, noRange)
	refused(t, api.ErrTwice, false, right, right, noArg, noRange)
	refused(t, api.ErrRange, false, right, noRange, right, noArg)
}

// P31.1: how many rules there may be. More than 54 right ones there are not.
func TestFull(t *testing.T) {
	right := all()
	of(t, false, right...)
	refused(t, api.ErrTwice, false, append(right, right[:10]...)...) // 64
	for _, n := range []int{11, 12, 50} {
		refused(t, api.ErrFull, false, append(right, right[:n]...)...)
	}
	for _, module := range []bool{false, true} {
		for _, n := range []int{1, 54, 63, 64} {
			refused(t, api.ErrRange, module, make([]rule, n)...)
		}
		for _, n := range []int{65, 66, 128, 1 << 16} {
			refused(t, api.ErrFull, module, make([]rule, n)...)
		}
		refused(t, api.ErrFull, module, slices.Repeat([]rule{{1, 0, 6}}, 65)...)
		refused(t, api.ErrArg, false, slices.Repeat([]rule{{1, 0, 6}}, 64)...)
	}
}

// P31.1: without rules, as a nil list or as an empty one.
func TestWithoutRules(t *testing.T) {
	for _, l := range [][]rule{nil, {}} {
		part, whole := of(t, false, l...), of(t, true, l...)
		for e := api.Errno(1); e <= 27; e++ {
			for _, p := range processes {
				counts(t, part, p, e, min(part.Count(p, e), 9))
				if p >= 0 {
					decides(t, part, p, e, atProcess, book.StopProcess)
				} else {
					decides(t, part, p, e, atPart, book.Halt)
				}
				decides(t, whole, p, e, atWhole, book.Tell)
			}
		}
	}
}

// P31.1: the rules that were passed are the caller's, and no two monitors share anything.
func TestRulesAreTheCallers(t *testing.T) {
	l := []rule{{1, atProcess, book.Ignore}, {2, atPart, book.WarmStart}}
	m, e := health.New(l, false)
	if e != api.OK || !slices.Equal(l, []rule{{1, atProcess, book.Ignore}, {2, atPart, book.WarmStart}}) {
		t.Fatal("what was passed changes:", l, e)
	}
	o, _ := health.New(l, false)
	clear(l)
	decides(t, m, 5, 1, atProcess, book.Ignore)
	decides(t, m, 5, 2, atPart, book.WarmStart)
	counts(t, o, 5, 1, 0)
	same(t, m, o, false)
}

// P31.2: for a process the rule at its level is first, then that of the partition.
func TestLevels(t *testing.T) {
	for _, p := range []int{0, 1, 31, 1 << 32, math.MaxInt} {
		for _, own := range actions(0) {
			for _, parts := range actions(1) {
				both := of(t, false, rule{3, atPart, parts}, rule{3, atProcess, own})
				decides(t, both, p, 3, atProcess, own)
				decides(t, both, -1, 3, atPart, parts)
				decides(t, both, p, 4, atProcess, book.StopProcess)
				decides(t, both, -1, 4, atPart, book.Halt)
				decides(t, of(t, false, rule{3, atPart, parts}), p, 3, atPart, parts)
				only := of(t, false, rule{3, atProcess, own})
				decides(t, only, p, 3, atProcess, own)
				decides(t, only, -1, 3, atPart, book.Halt)
			}
		}
	}
}

// P31.2: each error has a rule of its own at each level, whatever order they are in.
func TestAllRules(t *testing.T) {
	l := all()
	slices.Reverse(l)
	for _, m := range []*health.Monitor{of(t, false, all()...), of(t, false, l...)} {
		for e := api.Errno(1); e <= 27; e++ {
			decides(t, m, 2, e, atProcess, actions(0)[int(e)%4])
			decides(t, m, -1, e, atPart, actions(1)[int(e)%5])
		}
	}
}

// P31.2 and P31.3: each process is counted by itself, and all negative numbers are no process.
func TestCounts(t *testing.T) {
	m := of(t, false, all()...)
	want := map[int]int{}
	for i, p := range processes {
		for range i + 1 {
			m.Decide(p, 7)
			want[max(p, -1)]++
		}
	}
	for _, p := range processes {
		counts(t, m, p, 7, want[max(p, -1)])
		counts(t, m, p, 8, 0)
		counts(t, m, p, 6, 0)
	}
	counts(t, m, 3, 7, 0)
	counts(t, m, -77, 7, want[-1])
}

// P31.2 and P31.3: the monitor of the module treats every process as no process.
func TestModule(t *testing.T) {
	m := of(t, true, rule{5, atWhole, book.Ignore}, rule{6, atWhole, book.Tell})
	for i, p := range processes {
		for _, q := range processes {
			counts(t, m, q, 5, i)
		}
		decides(t, m, p, 5, atWhole, book.Ignore)
		decides(t, m, p, 6, atWhole, book.Tell)
		decides(t, m, p, 7, atWhole, book.Tell)
	}
	counts(t, m, 12345, 7, len(processes))
	same(t, met(of(t, true), 1, 0, 0), met(of(t, true), 1, -1, 9), true)
}

// P31.2 and P31.3: what is no error is not counted.
func TestWrongErrors(t *testing.T) {
	for _, m := range []*health.Monitor{of(t, false), of(t, false, all()...), of(t, true)} {
		before := m.Clone()
		for _, e := range wrongErrors {
			for _, p := range processes {
				if got := m.Decide(p, e); got != (action{}) {
					t.Errorf("Decide(%d, %d) = %v", p, e, got)
				}
				counts(t, m, p, e, 0)
			}
		}
		same(t, m, before, true)
	}
}

// P31.3: Reset forgets what was counted, and leaves the rules.
func TestReset(t *testing.T) {
	m := of(t, false, all()...)
	m.Reset()
	for range 2 {
		for e := api.Errno(1); e <= 27; e++ {
			met(m, e, 0, 1, 1, -1)
			counts(t, m, 1, e, 2)
			counts(t, m, -1, e, 1)
		}
		m.Reset()
		for e := api.Errno(1); e <= 27; e++ {
			counts(t, m, 0, e, 0)
			counts(t, m, 1, e, 0)
			counts(t, m, -1, e, 0)
		}
		same(t, m, of(t, false, all()...), true)
	}
	decides(t, m, 2, 9, atProcess, actions(0)[9%4])
	w := met(of(t, true), 3, 4, 4)
	w.Reset()
	counts(t, w, 4, 3, 0)
	same(t, w, of(t, true), true)
}

// P31.1: what a monitor and its clone become is up to each of them.
func TestClone(t *testing.T) {
	m := met(of(t, false, rule{3, atProcess, book.Tell}), 3, 0, 0, -1)
	c := m.Clone()
	if c == m {
		t.Fatal("a clone is another one")
	}
	same(t, m, c, true)
	decides(t, m, 0, 3, atProcess, book.Tell)
	counts(t, c, 0, 3, 2)
	same(t, m, c, false)
	d := m.Clone()
	m.Reset()
	counts(t, c, 0, 3, 2)
	counts(t, d, 0, 3, 3)
	counts(t, d, -1, 3, 1)
	decides(t, d, 0, 3, atProcess, book.Tell)
	counts(t, m, 0, 3, 0)
	w := of(t, true, rule{3, atWhole, book.Ignore}).Clone()
	decides(t, w, 6, 3, atWhole, book.Ignore)
	decides(t, w.Clone(), 7, 4, atWhole, book.Tell)
	counts(t, w, 0, 3, 1)
	counts(t, w, 0, 4, 0)
}

// P31.1: Same looks at whose monitor it is, at the rules and at the counts.
func TestSame(t *testing.T) {
	makes := func() []*health.Monitor {
		one, other := rule{1, atProcess, book.Ignore}, rule{1, atPart, book.Ignore}
		return []*health.Monitor{
			of(t, false), of(t, true), of(t, false, one), of(t, false, other), of(t, false, one, other), of(t, false, all()...),
			of(t, true, rule{1, atWhole, 0}), of(t, true, rule{1, atWhole, 1}), of(t, true, rule{2, atWhole, 0}),
			of(t, false, rule{1, atProcess, 1}), of(t, false, rule{2, atProcess, 0}), of(t, false, rule{1, atProcess, 1}, other),
			met(of(t, false), 1, 0), met(of(t, false), 1, 1), met(of(t, false), 1, -1), met(of(t, false), 2, 0), met(of(t, false), 1, 0, 0),
			met(of(t, false), 1, 0, 1), met(of(t, false, one), 1, 0), met(of(t, true), 1, 0), met(of(t, true), 1, 0, 0), met(of(t, true), 2, 0),
			met(of(t, false), 1, 1<<32), met(of(t, false), 1, math.MaxInt),
		}
	}
	for i, a := range makes() {
		for j, b := range makes() {
			if a.Same(b) != (i == j) {
				t.Errorf("Same of %d and %d: %v", i, j, a.Same(b))
			}
		}
	}
}

// P31.1: the order makes no difference, of rules or of errors.
func TestSameInAnyOrder(t *testing.T) {
	l := all()
	for range 5 {
		slices.Reverse(l[:20])
		slices.Reverse(l)
		same(t, of(t, false, l...), of(t, false, all()...), true)
	}
	a, b := of(t, false), of(t, false)
	met(met(a, 1, 0, 1, -1, 0), 2, 5)
	met(met(b, 2, 5), 1, -9, 1, 0, 0)
	same(t, a, b, true)
	a.Decide(3, 0)
	a.Count(3, 4)
	same(t, a, b, true)
	a.Decide(3, 4)
	same(t, a, b, false)
}
