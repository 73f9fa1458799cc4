package part

import (
	"monocoque/api"
	"monocoque/calls"
	"monocoque/proc"
)

// reply is the answer to a call, if one is given: a process that waits gets it later, and one that is done or stopped
// gets none.
type reply struct {
	calls.Answer
	given bool
}

func say(e api.Errno) reply { return reply{calls.Answer{E: e}, true} }

func tell(value uint32) reply { return reply{calls.Answer{Value: value}, true} }

// effects returns what each call does if a process asks for it by q.
func (t *turn) effects(i int, q calls.Request) map[int]func() reply {
	o := q.Object
	return map[int]func() reply{
		calls.Now:      func() reply { return tell(uint32(t.now)) },
		calls.Self:     func() reply { return tell(uint32(i)) },
		calls.Wait:     func() reply { return t.pause(i, q) },
		calls.Done:     func() reply { return t.done(i) },
		calls.Start:    func() reply { return say(t.dispatch.Start(o, t.now)) },
		calls.Stop:     func() reply { return t.end(i, o) },
		calls.Suspend:  func() reply { return say(t.dispatch.Suspend(o)) },
		calls.Resume:   func() reply { return say(t.dispatch.Resume(o)) },
		calls.Priority: func() reply { return say(t.dispatch.SetPriority(o, int(q.At))) },
		calls.Take:     func() reply { return t.take(i, q) },
		calls.Give:     func() reply { return t.give(i, o) },
		calls.Down:     func() reply { return t.unless(t.semas[o].Wait(i, t.current(i)), i, q) },
		calls.Up:       func() reply { return t.up(o) },
		calls.Raise:    func() reply { return t.raiseEvent(o) },
		calls.Lower:    func() reply { return t.lower(o) },
		calls.Await:    func() reply { return t.unless(t.events[o].Wait(i), i, q) },
		calls.Show:     func() reply { return t.with(q, func(m []uint32) reply { return t.show(o, m) }) },
		calls.Hide:     func() reply { return t.hide(o) },
		calls.Look:     func() reply { return t.look(i, q) },
		calls.Send:     func() reply { return t.with(q, func(m []uint32) reply { return t.send(i, q, m) }) },
		calls.Receive:  func() reply { return t.receive(i, q) },
		calls.Write:    func() reply { return t.write(q) },
		calls.Read:     func() reply { return t.read(q) },
		calls.Put:      func() reply { return t.put(q) },
		calls.Get:      func() reply { return t.get(q) },
		calls.Report:   func() reply { return t.with(q, t.publish) },
		calls.Fail:     func() reply { return t.fail(i, api.Errno(q.At)) },
		calls.Normal:   func() reply { return say(api.ErrMode) },
	}
}

// has reports whether the object of a request exists.
func (p *Part) has(q calls.Request) bool {
	n := 1 // a call that has no object has the number 0 there
	switch q.Call {
	case calls.Start, calls.Stop, calls.Suspend, calls.Resume, calls.Priority:
		n = len(p.threads)
	case calls.Take, calls.Give:
		n = len(p.config.Ceilings)
	case calls.Down, calls.Up:
		n = len(p.semas)
	case calls.Raise, calls.Lower, calls.Await:
		n = len(p.events)
	case calls.Show, calls.Hide, calls.Look:
		n = len(p.boards)
	case calls.Send, calls.Receive:
		n = len(p.buffers)
	case calls.Write, calls.Read, calls.Put, calls.Get:
		n = len(p.ports)
	}
	return q.Object < n
}

func (p *Part) current(i int) int { return p.dispatch.Table().Current(i) }

// pause lets a process wait for a time, or go behind the others of its priority.
func (t *turn) pause(i int, q calls.Request) reply {
	if q.Ticks == 0 {
		return say(t.dispatch.Yield(i))
	}
	return t.wait(i, q)
}

// wait lets a process wait for what it asked for, which it does not have at once.
func (t *turn) wait(i int, q calls.Request) reply {
	t.threads[i].does, t.threads[i].asked = waiting, q
	if q.Ticks == 0 {
		t.leave(i)
		return say(api.ErrWait)
	}
	until := q.Ticks // indefinitely, if it is negative
	if until > 0 {
		until += t.now
	}
	t.dispatch.Wait(i, until)
	return reply{}
}

// unless lets a process wait unless it has at once what it asked for.
func (t *turn) unless(has bool, i int, q calls.Request) reply {
	if has {
		return say(api.OK)
	}
	return t.wait(i, q)
}

// leave lets a process wait no longer, though it did not get what it waited for.
func (p *Part) leave(i int) {
	if p.threads[i].does != waiting {
		return
	}
	q := p.threads[i].asked
	p.threads[i].goOn()
	switch q.Call {
	case calls.Take:
		p.locks.Leave(i)
	case calls.Down:
		p.semas[q.Object].Drop(i)
	case calls.Await:
		p.events[q.Object].Drop(i)
	case calls.Look:
		p.boards[q.Object].Drop(i)
	case calls.Send, calls.Receive:
		p.buffers[q.Object].Drop(i)
	}
}

// wake lets a process wait no longer, as it got what it waited for, and returns what it asked for.
func (p *Part) wake(i int) calls.Request {
	q := p.threads[i].asked
	p.threads[i].goOn()
	p.dispatch.Wake(i)
	return q
}

// grant wakes a process and answers it.
func (p *Part) grant(i int) {
	p.wake(i)
	p.answer(i, calls.Answer{})
}

// hand wakes a process and lets it get a message.
func (p *Part) hand(i int, m []uint32) {
	q := p.wake(i)
	p.answer(i, p.deliver(q, m))
}

func (t *turn) done(i int) reply {
	t.finish(i)
	return reply{}
}

func (t *turn) end(i, o int) reply {
	if t.dispatch.Table().State(o) == proc.Dormant {
		return say(api.ErrState)
	}
	t.stop(o)
	return reply{given: o != i}
}

func (t *turn) take(i int, q calls.Request) reply {
	got, e := t.locks.Take(i, t.dispatch.Table().Base(i), q.Object)
	if e != api.OK {
		return say(e)
	}
	if got {
		t.raise(i)
	}
	return t.unless(got, i, q)
}

func (t *turn) give(i, o int) reply {
	next, e := t.locks.Give(i, o)
	if e == api.OK {
		t.passOn(i, next)
	}
	return say(e)
}

// giveAll gives back all locks of a process.
func (p *Part) giveAll(i int) { p.passOn(i, p.locks.Drop(i)) }

// passOn lets those who get locks go on, and raises them and the process that gave the locks back as they have to be.
func (p *Part) passOn(i int, next []int) {
	for _, n := range next {
		p.grant(n)
		p.raise(n)
	}
	p.raise(i)
}

// raise raises a process to the priority of its locks.
func (p *Part) raise(i int) {
	priority, _ := p.locks.Raised(i)
	p.dispatch.Raise(i, priority)
}

func (t *turn) up(o int) reply {
	woken, is, e := t.semas[o].Signal()
	if is {
		t.grant(woken)
	}
	return say(e)
}

func (t *turn) raiseEvent(o int) reply {
	for _, n := range t.events[o].Set() {
		t.grant(n)
	}
	return say(api.OK)
}

func (t *turn) lower(o int) reply {
	t.events[o].Reset()
	return say(api.OK)
}

// publish lets the words of a process be reported.
func (t *turn) publish(m []uint32) reply {
	t.report.Words = m
	return say(api.OK)
}

// fail answers the process first, as the error may give it fresh registers.
func (t *turn) fail(i int, e api.Errno) reply {
	t.answer(i, calls.Answer{})
	t.occur(i, e)
	return reply{}
}
