package part_test

import (
	"slices"
	"testing"

	"monocoque/api"
	"monocoque/book"
	"monocoque/calls"
	"monocoque/health"
	"monocoque/part"
	"monocoque/proc"
)

// P34.2: a process that used up its capacity does not run; ErrTime occurs once, and it rests until its next release.
func TestOverrun(t *testing.T) {
	c := priorities(world(t, forever, forever), 9, 5)
	c.Tasks[0].Attr.Capacity, c.Tasks[0].Attr.Period = 3, 10
	for _, do := range []int{book.Ignore, book.Tell} {
		p := begun(t, onError(c, api.ErrTime, do), 4)
		runs(t, p, 4, 0, 0, 0)
		if r := p.Step(7); !sameReport(r, part.Report{Ran: 1, Call: -1, Mode: 3, Faults: []part.Fault{{Process: 0, E: api.ErrTime, Do: do}}}) {
			t.Errorf("at 7, the Report is %v", r)
		}
		states(t, p, proc.Resting, proc.Ready)
		runs(t, p, 8, 1, 1, 1, 1, 1, 1, 0, 0, 0)
	}
	p := begun(t, c, 4)
	happens(t, p, 4, 40, "7 !0 16 2")
	states(t, p, proc.Dormant, proc.Ready)
	p = begun(t, onError(c, api.ErrTime, book.RestartProcess), 4)
	runs(t, p, 4, 0, 0, 0)
	if r := p.Step(7); !sameReport(r, part.Report{Ran: 0, Call: -1, Mode: 3, Faults: []part.Fault{{Process: 0, E: api.ErrTime, Do: book.RestartProcess}}}) {
		t.Errorf("at 7, the Report is %v", r)
	}
	happens(t, p, 8, 10, "10 !0 16 3", "13 !0 16 3", "16 !0 16 3")
	c.Tasks[0].Attr.Period = 0
	p = begun(t, onError(c, api.ErrTime, book.Tell), 4)
	happens(t, p, 4, 30, "7 !0 16 1")
	states(t, p, proc.Dormant, proc.Ready)
}

// P34.2: a release that ended so leaves nothing to the next one: neither ticks that are owed, nor registers, nor locks.
func TestOverrunLeavesNothing(t *testing.T) {
	c := world(t, lines(ask(calls.Take, 0, 0, 0, -1), "set r9 9", "div r9 r9", "trap 3"), lines("nop", ask(calls.Take, 0, 0, 0, -1), "trap 10", forever))
	c = onError(priorities(c, 5, 4), api.ErrTime, book.Tell)
	c.Ceilings = []int{9}
	c.Tasks[0].Attr.Capacity, c.Tasks[0].Attr.Period = 12, 20
	p := begun(t, c, 0)
	happens(t, p, 0, 13, "7 0 take 0", "12 !0 16 1")
	if r := p.View().Regs[0]; r != [16]uint32{} {
		t.Errorf("the registers are %v", r)
	}
	happens(t, p, 13, 37, "27 0 take 0", "32 !0 16 1 1 take 0", "36 1 give 0", "47 0 take 0")
}

// P34.2: several processes that used up their capacity are found one after another, and one that another one woke.
func TestOverruns(t *testing.T) {
	c := onError(priorities(world(t, forever, forever, forever), 9, 8, 7), api.ErrTime, book.Tell)
	for i := range c.Tasks {
		c.Tasks[i].Attr.Capacity, c.Tasks[i].Attr.Period = 2, 100
	}
	p := begun(t, c, 0)
	happens(t, p, 0, 10, "2 !0 16 1", "4 !1 16 1", "6 !2 16 1")
	states(t, p, proc.Resting, proc.Resting, proc.Resting)
	runs(t, p, 10, -1, -1)
}

// P34.2: the budget is for processes without a period; its exhaustion is reported once in each period.
func TestBudget(t *testing.T) {
	c := priorities(world(t, forever, forever), 9, 5)
	c.Tasks[1].Attr.Period = 1000
	c.Size, c.Period = 3, 10
	c.Rules = []health.Rule{{Error: api.ErrTime, Level: book.LevelPart, Do: book.Tell}}
	p := begun(t, c, 25)
	runs(t, p, 25, 0, 0, 0)
	if r := p.Step(28); !sameReport(r, part.Report{Ran: 1, Call: -1, Mode: 3, Faults: []part.Fault{{Process: -1, E: api.ErrTime, Do: book.Tell}}}) {
		t.Errorf("at 28, the Report is %v", r)
	}
	runs(t, p, 29, 1, 1, 1, 1, 1, 1, 0, 0, 0)
	happens(t, p, 38, 20, "38 !-1 16 1", "48 !-1 16 1")
	runs(t, p, 60, 1, 1, 1, 1, 1, 0, 0, 0, 1)
	c.Tasks[1].Attr.Period = 0 // both on the budget
	p = begun(t, c, 0)
	happens(t, p, 0, 30, "3 !-1 16 1", "13 !-1 16 1", "23 !-1 16 1")
	runs(t, p, 30, 0, 0, 0, -1, -1)
	c.Tasks[0].Attr.Period, c.Tasks[1].Attr.Period = 1000, 1000 // none
	happens(t, begun(t, c, 0), 0, 30)
	c.Size, c.Tasks[0].Attr.Period = 0, 0 // no budget
	happens(t, begun(t, c, 0), 0, 30)
	c.Size, c.Rules = 3, nil
	p = begun(t, c, 0)
	happens(t, p, 0, 5, "3 !-1 16 6 mode 0", "4 mode 0")
}

// P34.2: for a process that may run neither on the budget nor within its capacity, the budget counts.
func TestBudgetBeforeCapacity(t *testing.T) {
	c := world(t, forever)
	c.Tasks[0].Attr.Capacity, c.Size, c.Period = 3, 3, 5
	c.Rules = []health.Rule{{Error: api.ErrTime, Level: book.LevelPart, Do: book.Ignore}}
	p := begun(t, c, 0)
	happens(t, p, 0, 5, "3 !-1 16 0")
	states(t, p, proc.Ready)
	happens(t, p, 5, 5, "5 !0 16 0")
	states(t, p, proc.Dormant)
}

// busy returns a Config in which the process 0 stores some words and divides by 0 at the tick 20.
func busy(t *testing.T) part.Config {
	t.Helper()
	c := world(t,
		lines("nop", "nop", "nop", "nop", "nop", "nop", "nop", "set r1 8", "set r2 2000", "store r1 r2 1", "store r1 r2 -1000", "div r1 r3"),
		forever)
	c = priorities(c, 9, 5)
	c.Restarts = 2
	return c
}

// P34.2: each action, for an error of a process: what became of it and of the partition.
func TestActions(t *testing.T) {
	for do := range 7 {
		c := onError(busy(t), api.ErrDivide, do)
		p := begun(t, c, 0)
		happens(t, p, 0, 20)
		r, want := p.Step(20), part.Report{Ran: 0, Call: -1, Mode: 3, Faults: []part.Fault{{Process: 0, E: api.ErrDivide, Do: do}}}
		want.Mode = []int{3, 3, 3, 3, 2, 1, 0}[do]
		if !sameReport(r, want) {
			t.Errorf("the Report is %v, want %v", r, want)
		}
		v := p.View()
		if want := [][]int{{1, 1}, {1, 1}, {0, 1}, {1, 1}, {0, 0}, {0, 0}, {0, 0}}[do]; !slices.Equal(v.States, want) {
			t.Errorf("after the action %d, the states are %v, want %v", do, v.States, want)
		}
		if want := []int{0, 0, 0, 0, 1, 1, 0}[do]; v.Starts != want {
			t.Errorf("after the action %d, there were %d restarts, want %d", do, v.Starts, want)
		}
		answered(t, p, 0, 0, []uint32{8, 8, 0, 0, 0, 0, 0}[do])
		isAt(t, c, p, dataAt, []uint32{8, 8, 8, 8, 1, 1, 1}[do], 2)
		isAt(t, c, p, keepAt, 5, []uint32{8, 8, 8, 8, 8, 0, 0}[do])
	}
}

// P34.2: after a restart, nothing more is done at this tick, nor till the next window begins.
func TestNothingMore(t *testing.T) {
	for do := book.WarmStart; do <= book.Halt; do++ {
		mode := []int{2, 1, 0}[do-book.WarmStart]
		still := func(p *part.Part, now int) {
			t.Helper()
			before := p.Clone()
			if r := p.Step(now); !sameReport(r, part.Report{Ran: -1, Call: -1, Mode: mode}) || !p.Same(before) {
				t.Errorf("after the action %d, the Report is %v", do, r)
			}
			takes(t, p, now, message(0, 1), api.ErrMode)
			ends(t, p, now)
			if p.Room(0) != 0 || !p.Same(before) {
				t.Errorf("after the action %d, there is room", do)
			}
			p.Begin(now + 1)
			if want := mode > 0; (p.View().Mode == 3) != want || (p.Room(0) == 1) != want {
				t.Errorf("after the action %d, the mode is %d", do, p.View().Mode)
			}
		}
		c := onError(world(t, forever, forever), api.ErrDeadline, do)
		c.Ports = []part.Port{{Words: 1}}
		c.Tasks[0].Attr.Deadline, c.Tasks[1].Attr.Deadline = 3, 3
		c.Rules = append(c.Rules, health.Rule{Error: api.ErrTime, Level: book.LevelPart, Do: do})
		p := begun(t, c, 0)
		runs(t, p, 0, 0, 0, 0)
		if r, want := p.Step(3), (part.Report{Ran: -1, Call: -1, Mode: mode, Faults: []part.Fault{{Process: 0, E: api.ErrDeadline, Do: do}}}); !sameReport(r, want) {
			t.Errorf("the Report is %v, want %v", r, want)
		}
		still(p, 4)
		c.Tasks[0].Attr, c.Tasks[1].Attr = proc.Attr{Priority: 5, Capacity: 2}, proc.Attr{Priority: 5}
		p = begun(t, c, 0)
		runs(t, p, 0, 0, 0)
		if r, want := p.Step(2), (part.Report{Ran: -1, Call: -1, Mode: mode, Faults: []part.Fault{{Process: 0, E: api.ErrTime, Do: do}}}); !sameReport(r, want) {
			t.Errorf("the Report is %v, want %v", r, want)
		}
		still(p, 3)
		c.Tasks[0].Attr, c.Tasks[1].Attr = proc.Attr{Priority: 5}, proc.Attr{Priority: 3, Period: 40}
		c.Size, c.Period = 2, 40
		p = begun(t, c, 0)
		runs(t, p, 0, 0, 0)
		if r, want := p.Step(2), (part.Report{Ran: -1, Call: -1, Mode: mode, Faults: []part.Fault{{Process: -1, E: api.ErrTime, Do: do}}}); !sameReport(r, want) {
			t.Errorf("the Report is %v, want %v", r, want)
		}
		still(p, 3)
	}
}

// P34.2: what occurs for no process has no rule but one of the partition, and what occurs for a process has its own first.
func TestLevels(t *testing.T) {
	c := world(t, lines(ask(calls.Fail, 0, 5), ask(calls.Fail, 0, 6), ask(calls.Fail, 0, 7)))
	c.Rules = []health.Rule{
		{Error: 5, Level: book.LevelPart, Do: book.Halt}, {Error: 5, Level: book.LevelProcess, Do: book.Tell},
		{Error: 6, Level: book.LevelPart, Do: book.Ignore},
	}
	happens(t, begun(t, c, 0), 0, 20, "3 !0 5 1 0 fail 0", "7 !0 6 0 0 fail 0", "11 !0 7 2 0 fail 0")
}

// P34.2: with no restart permitted any more, the partition is idle permanently, in the state after a cold start.
func TestNoRestart(t *testing.T) {
	for _, do := range []int{book.WarmStart, book.ColdStart} {
		c := onError(world(t, lines("set r1 8", "set r2 2000", "store r1 r2 1", ask(calls.Fail, 0, 3))), api.ErrForm, do)
		c.Restarts = 2
		p := of(t, c)
		for i := range 3 {
			p.Begin(20 * i)
			after(p, 20*i, 20)
			if v := p.View(); v.Starts != min(i+1, 2) || (v.Mode == 0) != (i == 2) {
				t.Errorf("after %d errors, the View is %v", i+1, v)
			}
			isAt(t, c, p, keepAt, 5, []uint32{[]uint32{8, 8, 0}[i], 0, 0}[do-book.WarmStart])
		}
		p.Begin(100)
		if got := p.View().Mode; got != 0 {
			t.Errorf("the mode is %d", got)
		}
	}
}

// restless returns a Config whose process 0 changes whatever a partition has, if it has the message 1, and then fails.
func restless(t *testing.T, do int) part.Config {
	t.Helper()
	c := world(t,
		lines(ask(calls.Read, 0, 1010), "set r4 1010", "load r4 r4 0", "jz r4 fail",
			ask(calls.Take, 0, 0, 0, -1), ask(calls.Down, 0, 0, 0, -1), ask(calls.Raise, 0), ask(calls.Show, 0, 1000, 2),
			ask(calls.Send, 0, 1001, 2, -1), ask(calls.Write, 1, 1000, 2), ask(calls.Put, 3, 1000, 2), "push r4",
			"set r2 1020", "store r2 r2 0", "set r2 4031", "store r2 r2 0", ask(calls.Fail, 0, 18), ask(calls.Wait, 0, 0, 0, 1),
			ask(calls.Priority, 1, 3), ask(calls.Start, 3),
			"fail:", ask(calls.Fail, 0, 3)),
		lines(ask(calls.Take, 0, 0, 0, -1)),
		lines("set r0 1", ask(calls.Receive, 1, 1000, 0, 300)),
		forever)
	c = onError(onError(priorities(c, 5, 8, 8, 3), api.ErrForm, do), api.ErrOld, book.Ignore)
	c.Tasks[1].Attr.Offset = 80
	c.Tasks[3].Attr.Period = 100
	c.Ceilings = []int{8}
	c.Semas = []part.Sema{{First: 1, Most: 2}}
	c.Events = 1
	c.Boards = []int{2}
	c.Buffers = []part.Buffer{{Words: 2, Room: 2}, {Words: 2, Room: 2}}
	c.Ports = []part.Port{{Words: 1, Refresh: 1000}, {Out: true, Words: 2}, {Queue: true, Words: 1, Room: 1}, {Out: true, Queue: true, Words: 2, Room: 1}}
	c.Size, c.Period = 80, 100
	c.Rules = append(c.Rules, health.Rule{Error: api.ErrTime, Level: book.LevelPart, Do: book.Tell})
	return c
}

// T18: after a restart, a partition is as one that restarted before it did anything, except for what is preserved.
func TestRestartIsFresh(t *testing.T) {
	for do := book.WarmStart; do <= book.ColdStart; do++ {
		c := restless(t, do)
		one, other := begun(t, c, 0), begun(t, c, 7)
		takes(t, one, 0, message(0, 0), api.OK)
		takes(t, other, 7, message(0, 1), api.OK)
		takes(t, other, 7, message(2, 1), api.OK)
		takes(t, other, 7, message(2, 1), api.ErrLost)
		for now := 0; one.View().Mode == 3; now++ {
			one.Step(now)
		}
		now := 7
		for ; other.View().Mode == 3; now++ {
			other.Step(now)
		}
		if now < 100 || one.View().Starts != 1 || other.View().Starts != 1 {
			t.Fatalf("at %d, they restarted %d and %d times", now, one.View().Starts, other.View().Starts)
		}
		if !one.Same(other) {
			t.Errorf("after the action %d, they are not the same", do)
		}
		ends(t, other, now)
		ends(t, one, now)
		one.Begin(now)
		other.Begin(now)
		for ; now < 400; now++ {
			if a, b := one.Step(now), other.Step(now); !sameReport(a, b) || !one.Same(other) {
				t.Fatalf("after the action %d, %v and %v happen", do, a, b)
			}
		}
	}
}
