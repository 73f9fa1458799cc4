package part_test

import (
	"fmt"
	"math"
	"testing"

	"monocoque/api"
	"monocoque/book"
	"monocoque/calls"
	"monocoque/part"
	"monocoque/proc"
)

// The chapter's example.
func TestExample(t *testing.T) {
	p := begun(t, world(t, "trap 3"), 5)
	if r := p.Step(5); !sameReport(r, part.Report{Ran: 0, Call: -1, Mode: 3}) {
		t.Errorf("at 5, the Report is %v", r)
	}
	if r := p.Step(6); !sameReport(r, part.Report{Ran: 0, Call: 3, Mode: 3}) {
		t.Errorf("at 6, the Report is %v", r)
	}
}

// P34.2: Begin starts all processes, in order, and makes the mode Normal, but only if it was Cold or Warm.
func TestBegin(t *testing.T) {
	c := world(t, forever, forever, forever)
	c.Tasks[1].Attr.Offset = 4
	p := begun(t, c, 10)
	if v := p.View(); v.Mode != 3 || v.Starts != 0 {
		t.Errorf("the View is %v", v)
	}
	states(t, p, proc.Ready, proc.Resting, proc.Ready)
	runs(t, p, 10, 0, 0, 0, 0, 0)
	states(t, p, proc.Ready, proc.Ready, proc.Ready)
	before := p.Clone()
	p.Begin(15)
	if !p.Same(before) {
		t.Error("a window that begins in the mode Normal changes something")
	}
	p = begun(t, world(t, lines(ask(calls.Fail, 0, 4))), 0)
	happens(t, p, 0, 10, "3 !0 4 2 0 fail 0")
	c = onError(world(t, ask(calls.Fail, 0, 4)), api.ErrShort, book.Halt)
	p = begun(t, c, 0)
	p.Step(0)
	p.Step(1)
	p.Step(2)
	p.Step(3)
	before = p.Clone()
	p.Begin(4)
	if v := p.View(); v.Mode != 0 || !p.Same(before) {
		t.Errorf("a window that begins in the mode Idle changes something: %v", v)
	}
}

// P34.2: the price of an instruction is paid tick by tick, and its effect comes with the last one.
func TestPrices(t *testing.T) {
	c := world(t, lines("set r1 6", "mul r1 r1", "set r0 9", "set r9 1000", "store r0 r9 1", "div r1 r0", forever))
	p := begun(t, c, 0)
	for now, want := range [][3]uint32{
		{0, 6, 2}, {0, 6, 2}, {0, 6, 2}, {0, 36, 2}, {9, 36, 2}, {9, 36, 2}, {9, 36, 2}, {9, 36, 9},
		{9, 36, 9}, {9, 36, 9}, {9, 36, 9}, {9, 36, 9}, {9, 36, 9}, {9, 36, 9}, {9, 36, 9}, {9, 4, 9},
	} {
		runs(t, p, now, 0)
		answered(t, p, 0, want[0], want[1])
		isAt(t, c, p, dataAt+1, want[2])
	}
}

// P34.2: what is no instruction costs one tick, where there is a word and where there is none; so does a word that cannot
// be fetched, whatever it is.
func TestPriceOfNoInstruction(t *testing.T) {
	c := world(t, "nop")
	c.Image.Sections[0].Words = []uint32{1<<32 - 1}
	happens(t, begun(t, c, 7), 7, 4, "7 !0 12 2")
	c.Image.Sections[0].Words = assemble(t, lines("set r0 950", "push r0", "ret"))
	happens(t, begun(t, c, 0), 0, 30, "15 !0 2 2") // ten words that are nop, and then there is no place
	for _, at := range []int{dataAt, fixedAt} {
		c = world(t, lines(fmt.Sprint("set r1 ", at), "push r1", "ret"))
		for i := range c.Image.Sections {
			if c.Image.Sections[i].At == at {
				c.Image.Sections[i].Words = assemble(t, "div r0 r0")
			}
		}
		happens(t, begun(t, c, 0), 0, 20, "5 !0 11 2")
	}
}

// P34.2: an error of an instruction comes with its last tick; the registers stay, and the instruction begins again.
func TestErrorOfInstruction(t *testing.T) {
	p := begun(t, onError(world(t, lines("set r3 5", "div r3 r4")), api.ErrDivide, book.Tell), 0)
	happens(t, p, 0, 17, "8 !0 14 1", "16 !0 14 1")
	answered(t, p, 0, 0, 0, 0, 5)
	p = begun(t, onError(world(t, lines("set r3 5", "store r3 r4 0")), api.ErrRights, book.Ignore), 0)
	happens(t, p, 0, 7, "2 !0 11 0", "4 !0 11 0", "6 !0 11 0")
}

// P34.2: a process that was interrupted goes on owing what it owed.
func TestInterrupted(t *testing.T) {
	c := priorities(world(t, lines("set r1 3", "div r1 r1", ask(calls.Down, 0, 0, 0, -1), forever), lines("nop", "nop", "trap 3")), 3, 9)
	c.Tasks[1].Attr.Period, c.Tasks[1].Attr.Offset = 12, 5
	c.Semas = []part.Sema{{First: 1, Most: 1}}
	p := begun(t, c, 0)
	runs(t, p, 0, 0, 0, 0, 0, 0)
	happens(t, p, 5, 4, "8 1 done 0")
	answered(t, p, 0, 0, 3)
	runs(t, p, 9, 0, 0, 0)
	answered(t, p, 0, 0, 3)
	runs(t, p, 12, 0)
	answered(t, p, 0, 0, 1) // 8 ticks, 4 before it was interrupted
	happens(t, p, 13, 6, "")
	happens(t, p, 19, 4, "20 1 done 0")
	happens(t, p, 23, 2, "23 0 down 0")
}

// P34.2: a call that cannot be decoded is answered at once, with its number.
func TestNoCall(t *testing.T) {
	p := begun(t, world(t, lines("trap 28", "set r0 16", "trap 10", "set r2 33", "set r0 0", "trap 25", "trap 26", "trap 262143", forever)), 0)
	happens(t, p, 0, 20, "0 0 28 9", "2 0 give 2", "5 0 report 2", "6 0 fail 2", "7 0 262143 9")
	answered(t, p, 0, 9, 0, 0)
	p = begun(t, world(t, lines("set r5 77", "set r1 8", "set r2 9", "trap 99", forever)), 0)
	happens(t, p, 0, 9, "3 0 99 9")
	answered(t, p, 0, 9, 0, 0, 0, 0, 77)
}

// P34.2: the clock answers those who waited for a time with OK, at the tick, whether or not they are held.
func TestClock(t *testing.T) {
	c := priorities(world(t, lines(ask(calls.Wait, 9, 9, 9, 6), forever), lines("set r0 0", "trap 6", forever)), 9, 5)
	p := begun(t, c, 0)
	happens(t, p, 0, 11, "6 0 wait 0", "10 1 suspend 0")
	states(t, p, proc.Stopped, proc.Ready)
	answered(t, p, 0, 9, 9, 9, 6)
	runs(t, p, 11, 1)
	answered(t, p, 0, 9, 9, 9, 6)
	runs(t, p, 12, 1)
	answered(t, p, 0, 0, 0, 0, 6)
	states(t, p, proc.Stopped, proc.Ready)
}

// P34.2: a process that rests begins its next release at its tick, also if the partition had none for long.
func TestRelease(t *testing.T) {
	c := priorities(world(t, lines("set r0 1", "trap 3"), forever), 9, 5)
	c.Tasks[0].Attr.Period, c.Tasks[0].Attr.Offset = 10, 2
	p := begun(t, c, 0)
	runs(t, p, 0, 1, 1, 0, 0, 0, 1, 1, 1, 1, 1, 1, 1, 0, 0, 0, 1)
	happens(t, p, 45, 10, "47 0 done 0", "50 0 done 0", "53 0 done 0") // those of 22, 32 and 42
	runs(t, p, 55, 0, 0, 1, 1)                                         // that of 52
}

// P34.2: a deadline that is missed, of a process that runs, that waits, or that is held, once for each release.
func TestDeadline(t *testing.T) {
	c := priorities(world(t, forever, lines(ask(calls.Wait, 0, 0, 0, -1)), lines("set r0 3", "trap 6", ask(calls.Wait, 0, 0, 0, -1)), forever), 1, 5, 9, 2)
	for i := range c.Tasks {
		c.Tasks[i].Attr.Deadline = 20 + i
	}
	c = onError(c, api.ErrDeadline, book.Tell)
	p := begun(t, c, 0)
	happens(t, p, 0, 40, "3 2 suspend 0", "10 2 wait 0", "17 1 wait 0", "20 !0 15 1", "21 !1 15 1", "22 !2 15 1", "23 !3 15 1")
	states(t, p, proc.Ready, proc.Waiting, proc.Waiting, proc.Stopped)
}

// P34.2: with ticks that are none, everything ends; the last one that there is is 2^39.
func TestNoTicks(t *testing.T) {
	c := onError(world(t, forever), api.ErrTime, book.Tell)
	c.Tasks[0].Attr.Capacity, c.Tasks[0].Attr.Period = 1, 9
	c.Ports = []part.Port{{Words: 1}}
	for _, now := range []int{-1, math.MinInt, math.MaxInt, 1 << 41, 1<<40 + 1, 1<<39 + 1} {
		p := begun(t, c, 0)
		p.Step(0)
		for range 5 {
			p.Step(now)
			p.End(now)
			p.In(now, message(0))
			p.Begin(now)
		}
		begun(t, c, now).Step(now)
	}
	happens(t, begun(t, c, 1<<39-1), 1<<39-1, 2, "549755813888 !0 16 1")
}
