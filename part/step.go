package part

import (
	"monocoque/api"
	"monocoque/book"
	"monocoque/calls"
	"monocoque/cpu"
	"monocoque/isa"
	"monocoque/life"
	"monocoque/proc"
)

// turn is a tick of a partition, and what is to be reported of it.
type turn struct {
	*Part
	now    int
	report Report
}

// Step lets the partition have a tick.
func (p *Part) Step(now int) Report {
	t := &turn{Part: p, now: now, report: Report{Ran: none, Call: none}}
	if p.isNormal() && now >= 0 && now <= lastTick {
		t.pass()
	}
	t.report.Mode = p.life.Mode()
	return t.report
}

func (t *turn) pass() {
	if !t.clock() {
		return
	}
	if i, ok := t.choose(); ok {
		t.execute(i)
	}
}

// clock lets the timers run, and reports whether the partition goes on at this tick.
func (t *turn) clock() bool {
	woken, late := t.dispatch.Advance(t.now)
	for _, i := range woken {
		if t.threads[i].does == waiting {
			t.expire(i)
		}
	}
	for _, i := range late {
		if !t.occur(i, api.ErrDeadline) {
			return false
		}
	}
	return true
}

// expire answers a process whose time to wait has passed.
func (t *turn) expire(i int) {
	a := calls.Answer{E: api.ErrLate}
	if t.threads[i].asked.Call == calls.Wait {
		a.E = api.OK
	}
	t.leave(i)
	t.answer(i, a)
}

// choose returns the process that runs, or false if there is none or the partition does not go on at this tick.
func (t *turn) choose() (int, bool) {
again:
	for {
		table := t.dispatch.Table()
		for _, i := range t.dispatch.Ready() {
			switch {
			case t.isLimited(i) && t.budget.Left(t.now) == 0:
				if !t.exhaust() {
					return 0, false
				}
			case table.Left(i) != 0:
				return i, true
			case t.overrun(i):
				continue again
			default:
				return 0, false
			}
		}
		return 0, false
	}
}

// isLimited reports whether a process runs on the budget.
func (p *Part) isLimited(i int) bool {
	return p.budget != nil && p.config.Tasks[i].Attr.Period == 0
}

// exhaust reports that the budget is exhausted, once in each of its periods.
func (t *turn) exhaust() bool {
	next := t.budget.Next(t.now)
	if t.told == next {
		return true
	}
	t.told = next
	return t.occur(none, api.ErrTime)
}

// overrun ends the release of a process that may not use any more ticks, unless something else was done about it.
func (t *turn) overrun(i int) bool {
	if !t.occur(i, api.ErrTime) {
		return false
	}
	if table := t.dispatch.Table(); table.State(i) == proc.Ready && table.Left(i) == 0 {
		t.finish(i)
	}
	return true
}

// execute lets a process have the tick.
func (t *turn) execute(i int) {
	t.report.Ran = i
	t.dispatch.Charge(i, 1)
	if t.isLimited(i) {
		t.budget.Charge(t.now, 1)
	}
	thread := &t.threads[i]
	if thread.owes == 0 {
		thread.owes = t.price(thread.regs.Pc)
	}
	thread.owes--
	switch {
	case thread.owes > 0:
	case thread.does == calling:
		t.call(i)
	default:
		t.instruct(i)
	}
}

// price returns the ticks of the instruction at a place, or 1 if none can be fetched there.
func (p *Part) price(at uint32) int {
	w, e := p.space.Fetch(at)
	if e != api.OK {
		return 1
	}
	i, e := isa.Decode(w)
	if e != api.OK {
		return 1
	}
	return isa.Price(i.Op)
}

// instruct does the instruction of a process.
func (t *turn) instruct(i int) {
	regs, event := cpu.Step(t.threads[i].regs, t.space)
	if event.E != api.OK {
		t.occur(i, event.E)
		return
	}
	t.threads[i].regs = regs
	if event.Call >= 0 {
		t.request(i, event.Call)
	}
}

// request lets a process owe the ticks of a call, or answers it at once if it asks for what cannot be.
func (t *turn) request(i, call int) {
	q, e := calls.Decode(call, t.threads[i].regs.R)
	if e != api.OK {
		t.report.Call, t.report.E = call, e
		t.answer(i, calls.Answer{E: e})
		return
	}
	thread := &t.threads[i]
	thread.does, thread.asked, thread.owes = calling, q, calls.Price(q)
}

// call does the call of a process.
func (t *turn) call(i int) {
	q := t.threads[i].asked
	t.threads[i].goOn()
	t.report.Call = q.Call
	r := say(api.ErrNone)
	if t.has(q) {
		r = t.effects(i, q)[q.Call]()
	}
	if r.given {
		t.report.E = r.E
		t.answer(i, r.Answer)
	}
}

// answer lets a process have an answer.
func (p *Part) answer(i int, a calls.Answer) {
	regs := &p.threads[i].regs
	regs.R = calls.Back(regs.R, a)
}

// goOn lets a thread execute its next instruction when it has ticks.
func (t *thread) goOn() { t.does, t.asked = instructing, calls.Request{} }

// occur does what is decided about an error, and reports whether the partition goes on at this tick.
func (t *turn) occur(i int, e api.Errno) bool {
	do := t.monitor.Decide(i, e).Do
	t.report.Faults = append(t.report.Faults, Fault{Process: i, E: e, Do: do})
	switch do {
	case book.StopProcess:
		t.stop(i)
	case book.RestartProcess:
		t.stop(i)
		t.dispatch.Start(i, t.now)
	case book.WarmStart, book.ColdStart, book.Halt:
		mode, _, _ := t.life.Do(do)
		t.reset(mode == life.Warm)
		return false
	}
	return true
}

// stop makes a process dormant.
func (t *turn) stop(i int) {
	t.leave(i)
	t.giveAll(i)
	t.refresh(i)
	t.dispatch.Stop(i)
}

// finish ends the release of a process.
func (t *turn) finish(i int) {
	t.giveAll(i)
	t.refresh(i)
	t.dispatch.Done(i, t.now)
}

// refresh lets a process have fresh registers and owe nothing.
func (p *Part) refresh(i int) { p.threads[i], _ = p.newThread(p.config.Tasks[i]) }
