package part_test

import (
	"fmt"
	"testing"

	"monocoque/api"
	"monocoque/book"
	"monocoque/calls"
	"monocoque/part"
	"monocoque/proc"
)

// still is code that waits indefinitely.
var still = ask(calls.Wait, 0, 0, 0, -1)

// P34.2: now and self.
func TestNowAndSelf(t *testing.T) {
	p := begun(t, priorities(world(t, forever, lines("trap 1", "set r2 9", "trap 0", still)), 1, 2), 1<<32+4)
	happens(t, p, 1<<32+4, 2, "4294967301 1 self 0")
	answered(t, p, 1, 0, 1, 0)
	happens(t, p, 1<<32+6, 3, "4294967304 1 now 0")
	answered(t, p, 1, 0, 8, 0)
}

// P34.2: an object that does not exist, for each call that has one, whatever else is wrong.
func TestNoObject(t *testing.T) {
	for call := calls.Start; call <= calls.Get; call++ {
		for _, o := range []int{1, 15} {
			p := begun(t, world(t, lines(ask(call, o, 70000, 3, 0), forever)), 0)
			at := 4 + calls.Most(call)
			if at > 32 {
				at -= 29 // there are three words
			}
			happens(t, p, 0, 20, fmt.Sprintf("%d 0 %s 9", at, calls.Word(call)))
		}
		c := world(t, lines(ask(call, 0, 70000, 3, 0), forever))
		c.Ceilings, c.Semas, c.Events, c.Boards = []int{9}, []part.Sema{{Most: 1}}, 1, []int{1}
		c.Buffers, c.Ports = []part.Buffer{{Words: 1, Room: 1}}, []part.Port{{Words: 1}}
		p := begun(t, c, 0)
		for now := range 20 {
			if r := p.Step(now); r.E == api.ErrNone && call != calls.Read {
				t.Errorf("%s finds no object", calls.Word(call))
			}
		}
	}
}

// P34.2: wait.
func TestWait(t *testing.T) {
	c := world(t, lines(ask(calls.Wait, 0, 0, 0, 0), forever), lines("trap 1", forever))
	p := begun(t, c, 0)
	happens(t, p, 0, 7, "6 0 wait 0")
	runs(t, p, 7, 1, 1, 1)
	states(t, p, proc.Ready, proc.Ready)
	c = world(t, lines(ask(calls.Wait, 7, 0, 0, 2), forever), forever)
	p = begun(t, c, 0)
	happens(t, p, 0, 7, "6 0 wait 0")
	runs(t, p, 7, 1)
	states(t, p, proc.Waiting, proc.Ready)
	answered(t, p, 0, 7, 0, 0, 2)
	runs(t, p, 8, 1, 1)
	states(t, p, proc.Ready, proc.Ready)
	answered(t, p, 0, 0, 0, 0, 2)
	p = begun(t, world(t, lines(still, forever)), 0)
	happens(t, p, 0, 7, "6 0 wait 0")
	runs(t, p, 1<<38, -1)
	states(t, p, proc.Waiting)
	p = begun(t, world(t, lines(ask(calls.Wait, 0, 0, 0, -2), forever)), 1<<39-7) // 2^32 - 2 ticks
	happens(t, p, 1<<39-7, 7, fmt.Sprint(1<<39-1, " 0 wait 0"))
	runs(t, p, 1<<39, -1)
	states(t, p, proc.Waiting)
}

// P34.2: done ends a release, which leaves no locks; it is not answered.
func TestDone(t *testing.T) {
	c := world(t, lines(ask(calls.Take, 0, 0, 0, -1), "set r7 7", "push r7", "trap 3"), lines("nop", ask(calls.Take, 0, 0, 0, -1), forever))
	c = priorities(c, 5, 4)
	c.Ceilings = []int{6}
	c.Tasks[0].Attr.Period = 20
	p := begun(t, c, 0)
	happens(t, p, 0, 12, "7 0 take 0")
	happens(t, p, 12, 1, "12 0 done 0")
	states(t, p, proc.Resting, proc.Ready)
	if r := p.View().Regs[0]; r != [16]uint32{} {
		t.Errorf("the registers are %v", r)
	}
	happens(t, p, 13, 30, "27 0 take 0", "32 0 done 0", "34 1 take 0") // and then its priority is 6
}

// P34.2: start and stop of oneself and of others.
func TestStartAndStop(t *testing.T) {
	c := priorities(world(t,
		lines("set r9 9", ask(calls.Stop, 1), ask(calls.Stop, 1), ask(calls.Start, 1), ask(calls.Start, 1), ask(calls.Start, 0), ask(calls.Stop, 0)),
		lines("set r3 3", "set r4 4", forever)), 9, 5)
	p := begun(t, c, 0)
	happens(t, p, 0, 30, "5 0 stop 0", "10 0 stop 10", "15 0 start 0", "20 0 start 10", "25 0 start 10")
	answered(t, p, 0, 0, 0, 0)
	happens(t, p, 30, 1, "30 0 stop 0")
	states(t, p, proc.Dormant, proc.Ready)
	if r := p.View().Regs[0]; r != [16]uint32{} {
		t.Errorf("the registers are %v", r)
	}
	happens(t, p, 31, 4)
	answered(t, p, 1, 0, 0, 0, 3, 4)
	c.Tasks[1].Attr.Offset, c.Tasks[1].Attr.Capacity = 40, 2 // from its start on
	p = begun(t, c, 0)
	after(p, 0, 31)
	states(t, p, proc.Dormant, proc.Resting)
	happens(t, p, 31, 40, "57 !1 16 2") // it was started at 15
}

// P34.2: a process that is stopped no longer waits for what it waited for, and begins again where it began.
func TestStopLeavesNothing(t *testing.T) {
	for _, want := range []struct {
		call   int
		fields []int
	}{
		{calls.Take, []int{0, 0, 0, -1}}, {calls.Down, []int{0, 0, 0, 50}}, {calls.Await, []int{0, 0, 0, -1}}, {calls.Look, []int{0, 1000, 0, 60}},
		{calls.Receive, []int{0, 1000, 0, -1}}, {calls.Send, []int{1, 1000, 0, -1}}, {calls.Wait, []int{0, 0, 0, 30}},
	} {
		c := priorities(world(t,
			lines(ask(calls.Wait, 0, 0, 0, 40), ask(calls.Stop, 1), ask(calls.Start, 1), ask(calls.Up, 0), ask(calls.Raise, 0), ask(calls.Show, 0, 1000, 1),
				ask(calls.Send, 0, 1000, 1, 0), ask(calls.Receive, 1, 1000, 0, 0), still),
			lines(ask(want.call, want.fields...), forever),
			lines(ask(calls.Take, 0), ask(calls.Send, 1, 1000, 0), ask(calls.Wait, 0, 0, 0, 30), ask(calls.Give, 0), still)), 9, 5, 7)
		c.Ceilings, c.Semas, c.Events, c.Boards = []int{9}, []part.Sema{{Most: 2}}, 1, []int{1}
		c.Buffers = []part.Buffer{{Words: 1, Room: 1}, {Words: 1, Room: 1}}
		c.Tasks[1].Attr.Offset = 25
		p := begun(t, c, 0)
		after(p, 0, 46)
		states(t, p, proc.Waiting, proc.Waiting, proc.Waiting)
		after(p, 46, 10)
		states(t, p, proc.Ready, proc.Resting, proc.Ready)
		after(p, 56, 54)
		states(t, p, proc.Waiting, proc.Ready, proc.Waiting)
		if r := p.View().Regs[1]; r != [16]uint32{} {
			t.Errorf("the registers are %v", r)
		}
		// Nobody got in the meantime what the process wanted before it was stopped.
		price := calls.Price(calls.Request{Call: want.call, Ticks: -1})
		happens(t, p, 110, 12, fmt.Sprintf("%d 1 %s 0", 114+price, calls.Word(want.call)))
		if s := p.View().States[1]; (s == proc.Waiting) != (want.call == calls.Wait) {
			t.Errorf("%s: the state is %d", calls.Word(want.call), s)
		}
	}
}

// P34.2: suspend and resume.
func TestSuspendAndResume(t *testing.T) {
	c := priorities(world(t,
		lines(ask(calls.Suspend, 1), ask(calls.Suspend, 1), ask(calls.Resume, 1), ask(calls.Resume, 1), ask(calls.Suspend, 2), ask(calls.Resume, 2),
			ask(calls.Suspend, 0), "set r9 9", forever),
		forever, "trap 3", lines(ask(calls.Resume, 0), forever)), 5, 3, 9, 3)
	p := begun(t, c, 0)
	happens(t, p, 0, 29, "1 2 done 0", "5 0 suspend 0", "9 0 suspend 10", "13 0 resume 0", "17 0 resume 10", "21 0 suspend 10", "25 0 resume 10")
	happens(t, p, 29, 1, "29 0 suspend 0")
	states(t, p, proc.Stopped, proc.Ready, proc.Dormant, proc.Ready)
	answered(t, p, 0, 0, 0, 0)
	// The process 1 came behind the process 3 when it was resumed.
	happens(t, p, 30, 5, "33 3 resume 0")
	states(t, p, proc.Ready, proc.Ready, proc.Dormant, proc.Ready)
	answered(t, p, 0, 0, 0, 0, 0, 0, 0, 0, 0, 0, 9)
}

// P34.2: priority.
func TestPriority(t *testing.T) {
	c := priorities(world(t,
		lines(ask(calls.Priority, 1, 0), ask(calls.Priority, 1, 64), ask(calls.Priority, 1, -1), ask(calls.Priority, 2, 70), ask(calls.Priority, 2, 7),
			ask(calls.Priority, 0, 3), forever),
		forever, "trap 3"), 5, 3, 9)
	p := begun(t, c, 0)
	happens(t, p, 0, 40, "1 2 done 0", "6 0 priority 2", "11 0 priority 2", "16 0 priority 2", "21 0 priority 2", "26 0 priority 10", "31 0 priority 0")
	runs(t, p, 40, 1, 1)
	for _, at := range []int{64 + 7, 128 + 7, 256 + 7, 1<<16 + 7, -1<<17 + 7} {
		p = begun(t, priorities(world(t, lines(ask(calls.Priority, 1, at), forever), forever), 5, 3), 0)
		happens(t, p, 0, 6, "4 0 priority 2")
	}
	p = begun(t, priorities(world(t, lines(ask(calls.Priority, 1, 63), forever), forever), 5, 3), 0)
	happens(t, p, 0, 5, "4 0 priority 0")
	runs(t, p, 5, 1, 1)
}

// P34.2: take and give: the errors, and the priority of one that has locks.
func TestLocks(t *testing.T) {
	c := priorities(world(t,
		lines(ask(calls.Take, 0), ask(calls.Take, 0), ask(calls.Give, 1), ask(calls.Take, 1), ask(calls.Take, 2), ask(calls.Give, 0), ask(calls.Give, 1), forever),
		lines(ask(calls.Take, 0, 0, 0, 0), forever)), 5, 8)
	c.Ceilings = []int{8, 9, 4}
	c.Tasks[1].Attr.Offset = 18
	p := begun(t, c, 0)
	// The process 1 has the priority 8 and runs when the process 0 has none of the locks 0 and 1 any more.
	happens(t, p, 0, 60, "4 0 take 0", "9 0 take 7", "14 0 give 11", "19 0 take 0", "24 0 take 11", "29 0 give 0", "34 0 give 0", "42 1 take 0")
	c.Tasks[1].Attr.Offset = 2 // the process 0 asks while the process 1 has it, and does not wait
	p = begun(t, c, 0)
	happens(t, p, 0, 20, "9 1 take 0")
	c.Image.Sections[1].Words = assemble(t, lines(ask(calls.Take, 0, 0, 0, 0), still))
	p = begun(t, c, 0)
	happens(t, p, 0, 30, "9 1 take 0", "16 1 wait 0", "19 0 take 23", "24 0 take 23", "29 0 give 11")
}

// P34.2: a lock that is given back belongs to who waits for it, who is answered, woken and raised.
func TestLockGoesOn(t *testing.T) {
	for _, giving := range [][]string{{ask(calls.Give, 0), "nop", forever}, {"trap 3"}, {ask(calls.Stop, 0)}, {"div r9 r9"}} {
		c := priorities(world(t,
			lines(append([]string{ask(calls.Take, 0), ask(calls.Wait, 0, 0, 0, 50)}, giving...)...),
			lines(ask(calls.Take, 0, 0, 0, -1), forever),
			lines("nop", ask(calls.Take, 0, 0, 0, 90), forever),
			lines("nop", "nop", "nop", ask(calls.Take, 0, 0, 0, 5), forever)), 9, 3, 4, 2)
		c.Tasks[3].Attr.Offset = 1
		c.Ceilings = []int{9}
		p := begun(t, c, 0)
		after(p, 0, 50)
		states(t, p, proc.Waiting, proc.Waiting, proc.Waiting, proc.Ready)
		answered(t, p, 3, 24, 0, 0, 5)
		answered(t, p, 2, 0, 0, 0, 90)
		answered(t, p, 1, 0, 0, 0, 1<<32-1)
		for now := 50; p.View().States[2] != proc.Ready; now++ {
			if p.Step(now); now > 70 {
				t.Fatal("no lock is given back")
			}
		}
		runs(t, p, 71, 2, 2, 2) // it has the priority 9 now, and is ahead of all others of it
		if s := p.View().States; s[1] != proc.Waiting {
			t.Errorf("the states are %v", s)
		}
	}
}

// P34.2: down and up, by priority and by arrival.
func TestSemas(t *testing.T) {
	for _, by := range []bool{false, true} {
		c := priorities(world(t,
			lines(ask(calls.Down, 0, 0, 0, 0), ask(calls.Down, 0, 0, 0, 0), ask(calls.Wait, 0, 0, 0, 30), ask(calls.Up, 0), ask(calls.Up, 0), ask(calls.Up, 0),
				ask(calls.Up, 0), forever),
			lines(ask(calls.Down, 0, 0, 0, -1), "trap 3"), lines(ask(calls.Down, 0, 0, 0, 99), "trap 3"), lines(ask(calls.Down, 0, 0, 0, 3), "trap 3")), 9, 3, 4, 2)
		c.Semas = []part.Sema{{First: 1, Most: 2, ByPriority: by}}
		c.Tasks[2].Attr.Offset = 40
		p := begun(t, c, 0)
		happens(t, p, 0, 43, "6 0 down 0", "13 0 down 23", "20 0 wait 0", "27 1 down 0", "34 3 down 0", "38 3 done 0")
		c.Tasks[2].Attr.Offset = 28
		p = begun(t, c, 0)
		after(p, 0, 50)
		states(t, p, proc.Waiting, proc.Waiting, proc.Waiting, proc.Dormant)
		first, second := 1, 2
		if by {
			first, second = 2, 1
		}
		happens(t, p, 50, 4, "53 0 up 0")
		if s := p.View().States; s[first] != proc.Ready || s[second] != proc.Waiting {
			t.Errorf("the states are %v", s)
		}
		answered(t, p, first, 0, 0, 0)
		happens(t, p, 54, 4, "57 0 up 0")
		answered(t, p, second, 0, 0, 0)
		happens(t, p, 58, 8, "61 0 up 0", "65 0 up 0")
	}
}

// P34.2: the order by priority is that of the current priorities, to which locks raise.
func TestOrderOfRaised(t *testing.T) {
	for _, call := range []int{calls.Down, calls.Receive, calls.Send} {
		waits := []string{ask(call, 0, 1000, 1, -1), forever}
		c := priorities(world(t,
			lines(ask(calls.Wait, 0, 0, 0, 60), ask(calls.Up, 0), ask(calls.Send, 0, 1000, 1, 0), ask(calls.Receive, 1, 1000, 0, 0), still),
			lines(append([]string{ask(calls.Take, 0)}, waits...)...), lines(waits...), lines(ask(calls.Send, 1, 1000, 1, 0), still)), 20, 3, 7, 10)
		if call == calls.Send {
			c.Image.Sections[1].Words = assemble(t, lines(ask(calls.Take, 0), ask(call, 1, 1000, 1, -1), forever))
			c.Image.Sections[2].Words = assemble(t, lines(ask(call, 1, 1000, 1, -1), forever))
		}
		c.Tasks[2].Attr.Offset = 45
		c.Ceilings = []int{9}
		c.Semas = []part.Sema{{Most: 2, ByPriority: true}}
		c.Buffers = []part.Buffer{{Words: 1, Room: 1, ByPriority: true}, {Words: 1, Room: 1, ByPriority: true}}
		p := begun(t, c, 0)
		after(p, 0, 66)
		if s := p.View().States; s[1] != proc.Waiting || s[2] != proc.Waiting {
			t.Fatalf("%s: the states are %v", calls.Word(call), s)
		}
		for now := 66; now < 110; now++ {
			p.Step(now)
			if s := p.View().States; s[2] != proc.Waiting {
				t.Errorf("%s: the process 2 goes on first", calls.Word(call))
			}
		}
		if s := p.View().States; s[1] != proc.Ready {
			t.Errorf("%s: the states are %v", calls.Word(call), s)
		}
	}
}

// P34.2: a semaphore that is full.
func TestSemaFull(t *testing.T) {
	c := world(t, lines(ask(calls.Up, 0), ask(calls.Up, 0), forever))
	c.Semas = []part.Sema{{First: 1, Most: 2}}
	happens(t, begun(t, c, 0), 0, 10, "3 0 up 0", "7 0 up 8")
}

// P34.2: raise, lower and await.
func TestEvents(t *testing.T) {
	c := priorities(world(t,
		lines(ask(calls.Await, 0, 0, 0, 0), ask(calls.Wait, 0, 0, 0, 20), ask(calls.Raise, 0), ask(calls.Await, 0, 0, 0, 0), ask(calls.Lower, 0), ask(calls.Await, 0, 0, 0, 4), forever),
		lines(ask(calls.Await, 0, 0, 0, -1), forever), lines(ask(calls.Await, 0, 0, 0, 100), still)), 9, 3, 3)
	c.Events = 1
	p := begun(t, c, 0)
	happens(t, p, 0, 33, "6 0 await 23", "13 0 wait 0", "20 1 await 0", "27 2 await 0")
	states(t, p, proc.Waiting, proc.Waiting, proc.Waiting)
	happens(t, p, 33, 4, "36 0 raise 0")
	states(t, p, proc.Ready, proc.Ready, proc.Ready)
	answered(t, p, 1, 0, 0, 0)
	answered(t, p, 2, 0, 0, 0)
	happens(t, p, 37, 17, "43 0 await 0", "46 0 lower 0", "53 0 await 0")
	runs(t, p, 54, 1, 1, 1)
	runs(t, p, 57, 0)
	answered(t, p, 0, 24, 0, 0)
}

// P34.2: report, fail and normal.
func TestReportFailNormal(t *testing.T) {
	c := onError(world(t, lines(ask(calls.Report, 0, 1000, 4), ask(calls.Report, 0, 3000, 2), ask(calls.Report, 0, 5000, 0), ask(calls.Report, 0, 1063, 2),
		ask(calls.Report, 0, 1063, 1), ask(calls.Report, 0, 5000, 1), "trap 27", ask(calls.Fail, 0, 27), forever)), api.ErrFlow, book.Tell)
	p := begun(t, c, 0)
	happens(t, p, 0, 60, "9 0 report 0 [1 2 3 4]", "17 0 report 0 [7 8]", "23 0 report 0", "31 0 report 2", "38 0 report 0 [0]", "45 0 report 2", "47 0 normal 19",
		"51 !0 27 1 0 fail 0")
	answered(t, p, 0, 0, 0, 0)
	c = onError(world(t, lines("set r9 9", ask(calls.Fail, 0, 17))), api.ErrLost, book.RestartProcess)
	p = begun(t, c, 0)
	happens(t, p, 0, 10, "4 !0 17 3 0 fail 0", "9 !0 17 3 0 fail 0")
	if r := p.View().Regs[0]; r != [16]uint32{} {
		t.Errorf("the registers are %v", r)
	}
}
