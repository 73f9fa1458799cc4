package part_test

import (
	"slices"

	"monocoque/api"
	"monocoque/calls"
	"monocoque/cpu"
	"monocoque/isa"
	"monocoque/part"
	"monocoque/space"
)

// The states of a process of the model; held is kept beside them.
const (
	dormant = 0
	ready   = 1
	waiting = 2
	resting = 3
	held    = 4
)

// What a process of the model does beside its instructions.
const (
	owing  = 1 // the ticks of a call
	asking = 2 // for what it waits
)

// process is a process by the chapters 19, 20 and 34.
type process struct {
	state, until     int // -1: indefinitely
	held             bool
	base, raised     int
	begin, used      int
	missed           bool
	timer            int // which one it is, in the order in which they were set
	regs             cpu.Regs
	owes, does       int
	q                calls.Request
	period, capacity int
	deadline, offset int
	priority, entry  int
	floor, top       int
}

// waiter is a process that waits for an object.
type waiter struct {
	id, priority int
	m            []uint32
}

// thing is an object of any kind.
type thing struct {
	owner, count int        // of a lock; of a semaphore
	up           bool       // of an event
	shown        bool       // of a board
	list         [][]uint32 // of a buffer or a port; what a board shows
	waiters      []waiter
	lost         bool // of a queuing port
	written      bool // of a sampling port
	stamp        int
}

// model is a partition by the definition: it knows lists and numbers only.
type model struct {
	c                                            part.Config
	words                                        []uint32
	procs                                        []process
	queue                                        []int
	timers                                       int
	locks, semas, events, boards, buffers, ports []thing
	mode, starts                                 int
	periods, period, charged                     int // the budget: where its periods begin, the last one charged, and how much
	told                                         int
	now                                          int
	report                                       part.Report
	gone                                         bool // restarted or idle in this tick
}

func newModel(c part.Config) *model {
	m := &model{c: c, mode: 1}
	for _, a := range c.Areas {
		m.words = append(m.words, make([]uint32, a.Words)...)
	}
	m.fresh(false)
	return m
}

// index returns where the word of a place is, and its area.
func (m *model) index(at uint32) (int, space.Area, bool) {
	before := 0
	for _, a := range m.c.Areas {
		if int(at) >= a.From && int(at) < a.From+a.Words {
			return before + int(at) - a.From, a, true
		}
		before += a.Words
	}
	return 0, space.Area{}, false
}

// Load, Fetch and Store let the model be a memory.
func (m *model) Load(at uint32) (uint32, api.Errno) {
	i, _, ok := m.index(at)
	if !ok {
		return 0, api.ErrRange
	}
	return m.words[i], api.OK
}

func (m *model) Fetch(at uint32) (uint32, api.Errno) {
	if _, a, ok := m.index(at); ok && !a.Run {
		return 0, api.ErrRights
	}
	return m.Load(at)
}

func (m *model) Store(at, w uint32) api.Errno {
	i, a, ok := m.index(at)
	if !ok {
		return api.ErrRange
	}
	if !a.Write {
		return api.ErrRights
	}
	m.words[i] = w
	return api.OK
}

// fresh is a cold or a warm start, without the mode.
func (m *model) fresh(warm bool) {
	at := 0
	for _, a := range m.c.Areas {
		for n := range a.Words {
			if !warm || !a.Keep {
				m.words[at] = m.image(a.From + n)
			}
			at++
		}
	}
	m.procs, m.queue = make([]process, len(m.c.Tasks)), nil
	for i, t := range m.c.Tasks {
		m.procs[i] = process{
			priority: t.Attr.Priority, period: t.Attr.Period, capacity: t.Attr.Capacity, deadline: t.Attr.Deadline,
			offset: t.Attr.Offset, entry: m.c.Image.Entries[t.Entry], floor: t.Floor, top: t.Top,
		}
		m.renew(i)
	}
	m.locks = make([]thing, len(m.c.Ceilings))
	for i := range m.locks {
		m.locks[i].owner = -1
	}
	m.semas = make([]thing, len(m.c.Semas))
	for i, s := range m.c.Semas {
		m.semas[i].count = s.First
	}
	m.events = make([]thing, m.c.Events)
	m.boards = make([]thing, len(m.c.Boards))
	m.buffers = make([]thing, len(m.c.Buffers))
	m.ports = make([]thing, len(m.c.Ports))
	m.periods, m.period, m.charged, m.told = 0, 0, 0, 0
}

func (m *model) image(at int) uint32 {
	for _, s := range m.c.Image.Sections {
		if at >= s.At && at < s.At+len(s.Words) {
			return s.Words[at-s.At]
		}
	}
	return 0
}

// renew lets a process have fresh registers and owe nothing.
func (m *model) renew(i int) {
	p := &m.procs[i]
	p.regs = cpu.Regs{Pc: uint32(p.entry), Sp: uint32(p.top), Floor: uint32(p.floor), Top: uint32(p.top)}
	p.owes, p.does, p.q = 0, 0, calls.Request{}
}

func (p *process) current() int { return max(p.base, p.raised) }

func (p *process) shown() int {
	if p.held {
		return held
	}
	return p.state
}

// enqueue lets a process that is ready and not held enter the queue, behind all of its priority or before them.
func (m *model) enqueue(i int, behind bool) {
	m.dequeue(i)
	if m.procs[i].shown() != ready {
		return
	}
	at, mine := 0, m.procs[i].current()
	for at < len(m.queue) {
		if its := m.procs[m.queue[at]].current(); its < mine || its == mine && !behind {
			break
		}
		at++
	}
	m.queue = slices.Insert(m.queue, at, i)
}

func (m *model) dequeue(i int) {
	m.queue = slices.DeleteFunc(m.queue, func(n int) bool { return n == i })
}

// sleep lets a process wait or rest.
func (m *model) sleep(i, state, until int) {
	m.timers++
	p := &m.procs[i]
	p.state, p.until, p.timer = state, until, m.timers
	m.dequeue(i)
}

// release begins a release.
func (m *model) release(i, begin int) {
	p := &m.procs[i]
	p.state, p.begin, p.used, p.missed = ready, begin, 0, false
	m.enqueue(i, true)
}

func (m *model) start(i int) api.Errno {
	p := &m.procs[i]
	if p.state != dormant {
		return api.ErrState
	}
	m.renew(i)
	p.base, p.raised, p.held = p.priority, 0, false
	if p.offset > 0 {
		m.sleep(i, resting, m.now+p.offset)
	} else {
		m.release(i, m.now)
	}
	return api.OK
}

// finish ends a release.
func (m *model) finish(i int) {
	m.giveAll(i)
	m.renew(i)
	p := &m.procs[i]
	m.dequeue(i)
	switch next := p.begin + p.period; {
	case p.period == 0:
		p.state = dormant
	case next <= m.now:
		m.release(i, next)
	default:
		m.sleep(i, resting, next)
	}
}

func (m *model) stop(i int) {
	m.unwait(i)
	m.giveAll(i)
	m.renew(i)
	m.dequeue(i)
	m.procs[i].state, m.procs[i].held = dormant, false
}

// unwait lets a process wait for no object any more.
func (m *model) unwait(i int) {
	for _, l := range [][]thing{m.locks, m.semas, m.events, m.boards, m.buffers} {
		for n := range l {
			l[n].waiters = slices.DeleteFunc(l[n].waiters, func(w waiter) bool { return w.id == i })
		}
	}
	if m.procs[i].does == asking {
		m.procs[i].does = 0
	}
}

// join lets a process wait for an object.
func (o *thing) join(w waiter, byPriority bool) {
	at := len(o.waiters)
	for byPriority && at > 0 && o.waiters[at-1].priority < w.priority {
		at--
	}
	o.waiters = slices.Insert(o.waiters, at, w)
}

// first removes the one that waits first.
func (o *thing) first() waiter {
	w := o.waiters[0]
	o.waiters = o.waiters[1:]
	return w
}

func (m *model) answer(i int, e api.Errno, value, words int) {
	r := &m.procs[i].regs.R
	r[0], r[1], r[2] = uint32(e), uint32(value), uint32(words)
}

// wake lets a process that waited go on.
func (m *model) wake(i int) {
	p := &m.procs[i]
	p.does = 0
	p.state = ready
	m.enqueue(i, true)
}

func (m *model) raised(i int) int {
	most := 0
	for n, l := range m.locks {
		if l.owner == i {
			most = max(most, m.c.Ceilings[n])
		}
	}
	return most
}

// raise raises a process as its locks ask for.
func (m *model) raise(i int) {
	p := &m.procs[i]
	before := p.current()
	p.raised = m.raised(i)
	if p.current() != before && slices.Contains(m.queue, i) {
		m.enqueue(i, false)
	}
}

// give gives a list of locks of a process back.
func (m *model) give(i int, locks ...int) {
	var next []int
	for _, n := range locks {
		l := &m.locks[n]
		l.owner = -1
		if len(l.waiters) > 0 {
			l.owner = l.first().id
			next = append(next, l.owner)
		}
	}
	for _, n := range next {
		m.wake(n)
		m.raise(n)
		m.answer(n, api.OK, 0, 0)
	}
	m.raise(i)
}

func (m *model) giveAll(i int) {
	var all []int
	for n, l := range m.locks {
		if l.owner == i {
			all = append(all, n)
		}
	}
	m.give(i, all...)
}

// occur lets an error occur.
func (m *model) occur(i int, e api.Errno) {
	do := -1
	for _, level := range []int{0, 1} {
		for _, r := range m.c.Rules {
			if do < 0 && r.Error == e && r.Level == level && (level == 1 || i >= 0) {
				do = r.Do
			}
		}
	}
	if do < 0 && i >= 0 {
		do = 2
	} else if do < 0 {
		do = 6
	}
	m.report.Faults = append(m.report.Faults, part.Fault{Process: i, E: e, Do: do})
	switch do {
	case 2:
		m.stop(i)
	case 3:
		m.stop(i)
		m.start(i)
	case 4, 5:
		m.gone = true
		if m.starts == m.c.Restarts {
			m.mode = 0
			m.fresh(false)
			return
		}
		m.starts++
		m.mode = 6 - do
		m.fresh(do == 4)
	case 6:
		m.gone = true
		m.mode = 0
		m.fresh(false)
	}
}

func (m *model) Begin(now int) {
	if m.mode != 1 && m.mode != 2 {
		return
	}
	m.mode, m.now = 3, now
	m.periods, m.period, m.charged = now, 0, 0
	for i := range m.procs {
		m.start(i)
	}
}

func (m *model) Step(now int) part.Report {
	m.now, m.gone = now, false
	m.report = part.Report{Ran: -1, Call: -1}
	if m.mode == 3 {
		m.clock()
	}
	if m.mode == 3 && !m.gone {
		if i := m.selection(); i >= 0 {
			m.execute(i)
		}
	}
	m.report.Mode = m.mode
	return m.report
}

func (m *model) clock() {
	var due []int
	for i, p := range m.procs {
		if (p.state == resting || p.state == waiting && p.until >= 0) && p.until <= m.now {
			due = append(due, i)
		}
	}
	slices.SortFunc(due, func(a, b int) int {
		if n := m.procs[a].until - m.procs[b].until; n != 0 {
			return n
		}
		return m.procs[a].timer - m.procs[b].timer
	})
	for _, i := range due {
		if p := &m.procs[i]; p.state == resting {
			m.release(i, p.until)
		} else {
			p.state = ready
			m.enqueue(i, true)
		}
	}
	var late []int
	for i := range m.procs {
		p := &m.procs[i]
		if p.deadline > 0 && (p.state == ready || p.state == waiting) && p.begin <= m.now-p.deadline && !p.missed {
			p.missed = true
			late = append(late, i)
		}
	}
	for _, i := range due {
		if p := &m.procs[i]; p.does == asking {
			e := api.ErrLate
			if p.q.Call == calls.Wait {
				e = api.OK
			}
			m.unwait(i)
			m.answer(i, e, 0, 0)
		}
	}
	for _, i := range late {
		if !m.gone {
			m.occur(i, api.ErrDeadline)
		}
	}
}

// left returns how many ticks of the budget are left.
func (m *model) left() int {
	if (m.now-m.periods)/m.c.Period > m.period {
		return m.c.Size
	}
	return m.c.Size - m.charged
}

func (m *model) selection() int {
	for at := 0; at < len(m.queue); at++ {
		i := m.queue[at]
		p := &m.procs[i]
		if p.period == 0 && m.c.Size > 0 && m.left() == 0 {
			if end := m.periods + ((m.now-m.periods)/m.c.Period+1)*m.c.Period; m.told != end {
				m.told = end
				m.occur(-1, api.ErrTime)
			}
			if m.gone {
				return -1
			}
			continue
		}
		if p.capacity == 0 || p.used < p.capacity {
			return i
		}
		m.occur(i, api.ErrTime)
		if m.gone {
			return -1
		}
		p = &m.procs[i]
		if p.shown() == ready && p.used >= p.capacity {
			m.finish(i)
		}
		at = -1
	}
	return -1
}

func (m *model) execute(i int) {
	m.report.Ran = i
	p := &m.procs[i]
	p.used++
	if p.period == 0 && m.c.Size > 0 {
		if n := (m.now - m.periods) / m.c.Period; n != m.period {
			m.period, m.charged = n, 0
		}
		m.charged++
	}
	if p.owes == 0 {
		p.owes = 1
		if w, e := m.Fetch(p.regs.Pc); e == api.OK {
			if x, e := isa.Decode(w); e == api.OK {
				p.owes = isa.Price(x.Op)
			}
		}
	}
	p.owes--
	if p.owes > 0 {
		return
	}
	if p.does == owing {
		p.does = 0
		m.call(i, p.q)
		return
	}
	r, x := cpu.Step(p.regs, m)
	if x.E != api.OK {
		m.occur(i, x.E)
		return
	}
	p.regs = r
	if x.Call < 0 {
		return
	}
	q, e := calls.Decode(x.Call, r.R)
	if e != api.OK {
		m.report.Call, m.report.E = x.Call, e
		m.answer(i, e, 0, 0)
		return
	}
	p.does, p.q, p.owes = owing, q, calls.Price(q)
}

// count returns how many objects a call can have.
func (m *model) count(call int) int {
	switch {
	case call >= calls.Start && call <= calls.Priority:
		return len(m.procs)
	case call == calls.Take || call == calls.Give:
		return len(m.locks)
	case call == calls.Down || call == calls.Up:
		return len(m.semas)
	case call >= calls.Raise && call <= calls.Await:
		return len(m.events)
	case call >= calls.Show && call <= calls.Look:
		return len(m.boards)
	case call == calls.Send || call == calls.Receive:
		return len(m.buffers)
	case call >= calls.Write && call <= calls.Get:
		return len(m.ports)
	}
	return 1
}

func (m *model) call(i int, q calls.Request) {
	m.report.Call = q.Call
	if q.Object >= m.count(q.Call) {
		m.replies(i, api.ErrNone, 0, 0)
		return
	}
	switch {
	case q.Call <= calls.Priority || q.Call >= calls.Report:
		m.callOfProcess(i, q)
	case q.Call <= calls.Await:
		m.callOfOrder(i, q)
	case q.Call <= calls.Receive:
		m.callOfMessages(i, q)
	default:
		m.callOfPorts(i, q)
	}
}

// replies answers the call that is done.
func (m *model) replies(i int, e api.Errno, value, words int) {
	m.report.E = e
	m.answer(i, e, value, words)
}

// waits lets the process wait that did a call, for an object unless it is nil.
func (m *model) waits(i int, q calls.Request) {
	p := &m.procs[i]
	if q.Ticks == 0 {
		m.unwait(i)
		m.replies(i, api.ErrWait, 0, 0)
		return
	}
	p.does, p.q = asking, q
	until := -1
	if q.Ticks > 0 {
		until = m.now + q.Ticks
	}
	m.sleep(i, waiting, until)
}

func (m *model) callOfProcess(i int, q calls.Request) {
	o := &m.procs[q.Object]
	e := api.OK
	switch q.Call {
	case calls.Now:
		m.replies(i, api.OK, m.now%(1<<32), 0)
		return
	case calls.Self:
		m.replies(i, api.OK, i, 0)
		return
	case calls.Wait:
		if q.Ticks != 0 {
			m.waits(i, q)
			return
		}
		m.enqueue(i, true)
	case calls.Done:
		m.finish(i)
		return
	case calls.Start:
		e = m.start(q.Object)
	case calls.Stop:
		if o.state == dormant {
			e = api.ErrState
		} else {
			m.stop(q.Object)
			if q.Object == i {
				return
			}
		}
	case calls.Suspend:
		if o.state == dormant || o.held {
			e = api.ErrState
		} else {
			o.held = true
			m.dequeue(q.Object)
		}
	case calls.Resume:
		if !o.held {
			e = api.ErrState
		} else {
			o.held = false
			m.enqueue(q.Object, true)
		}
	case calls.Priority:
		if q.At < 1 || q.At > 63 {
			e = api.ErrRange
		} else if o.state == dormant {
			e = api.ErrState
		} else {
			before := o.current()
			o.base = int(q.At)
			if o.current() != before && slices.Contains(m.queue, q.Object) {
				m.enqueue(q.Object, true)
			}
		}
	case calls.Report:
		l, error := m.load(q)
		if e = error; e == api.OK {
			m.report.Words = l
		}
	case calls.Fail:
		m.replies(i, api.OK, 0, 0)
		m.occur(i, api.Errno(q.At))
		return
	case calls.Normal:
		e = api.ErrMode
	}
	m.replies(i, e, 0, 0)
}

func (m *model) callOfOrder(i int, q calls.Request) {
	p, n := &m.procs[i], q.Object
	e := api.OK
	switch q.Call {
	case calls.Take:
		l := &m.locks[n]
		switch {
		case l.owner == i:
			e = api.ErrTwice
		case p.base > m.c.Ceilings[n]:
			e = api.ErrRights
		case l.owner >= 0:
			l.join(waiter{id: i, priority: p.base}, true)
			m.waits(i, q)
			return
		default:
			l.owner = i
			m.raise(i)
		}
	case calls.Give:
		if m.locks[n].owner != i {
			e = api.ErrRights
		} else {
			m.give(i, n)
		}
	case calls.Down:
		s := &m.semas[n]
		if s.count == 0 {
			s.join(waiter{id: i, priority: p.current()}, m.c.Semas[n].ByPriority)
			m.waits(i, q)
			return
		}
		s.count--
	case calls.Up:
		s := &m.semas[n]
		switch {
		case len(s.waiters) > 0:
			w := s.first()
			m.wake(w.id)
			m.answer(w.id, api.OK, 0, 0)
		case s.count == m.c.Semas[n].Most:
			e = api.ErrFull
		default:
			s.count++
		}
	case calls.Raise:
		m.events[n].up = true
		for len(m.events[n].waiters) > 0 {
			w := m.events[n].first()
			m.wake(w.id)
			m.answer(w.id, api.OK, 0, 0)
		}
	case calls.Lower:
		m.events[n].up = false
	case calls.Await:
		if !m.events[n].up {
			m.events[n].join(waiter{id: i}, false)
			m.waits(i, q)
			return
		}
	}
	m.replies(i, e, 0, 0)
}

// load loads the words of a call.
func (m *model) load(q calls.Request) (l []uint32, e api.Errno) {
	for n := range q.Words {
		w, e := m.Load(uint32((int(q.At) + n) % (1 << 32)))
		if e != api.OK {
			return nil, e
		}
		l = append(l, w)
	}
	return l, api.OK
}

// deliver stores a message for a process, and returns with what it is answered.
func (m *model) deliver(q calls.Request, l []uint32) (api.Errno, int) {
	for n, w := range l {
		if e := m.Store(uint32((int(q.At)+n)%(1<<32)), w); e != api.OK {
			return e, 0
		}
	}
	return api.OK, len(l)
}

// hands lets a process that waited have a message.
func (m *model) hands(i int, l []uint32) {
	m.wake(i)
	e, n := m.deliver(m.procs[i].q, l)
	m.answer(i, e, 0, n)
}

func (m *model) callOfMessages(i int, q calls.Request) {
	p := &m.procs[i]
	switch q.Call {
	case calls.Show:
		b := &m.boards[q.Object]
		l, e := m.load(q)
		if e == api.OK && len(l) > m.c.Boards[q.Object] {
			e = api.ErrRange
		}
		if e == api.OK {
			b.shown, b.list = true, [][]uint32{l}
			for len(b.waiters) > 0 {
				m.hands(b.first().id, l)
			}
		}
		m.replies(i, e, 0, 0)
	case calls.Hide:
		m.boards[q.Object].shown = false
		m.replies(i, api.OK, 0, 0)
	case calls.Look:
		if b := &m.boards[q.Object]; b.shown {
			e, n := m.deliver(q, b.list[0])
			m.replies(i, e, 0, n)
		} else {
			b.join(waiter{id: i}, false)
			m.waits(i, q)
		}
	case calls.Send:
		b, c := &m.buffers[q.Object], m.c.Buffers[q.Object]
		l, e := m.load(q)
		if e == api.OK && len(l) > c.Words {
			e = api.ErrRange
		}
		switch {
		case e != api.OK:
		case len(b.list) == 0 && len(b.waiters) > 0:
			m.hands(b.first().id, l)
		case len(b.list) < c.Room:
			b.list = append(b.list, l)
		default:
			b.join(waiter{i, p.current(), l}, c.ByPriority)
			m.waits(i, q)
			return
		}
		m.replies(i, e, 0, 0)
	case calls.Receive:
		b, c := &m.buffers[q.Object], m.c.Buffers[q.Object]
		if len(b.list) == 0 {
			b.join(waiter{id: i, priority: p.current()}, c.ByPriority)
			m.waits(i, q)
			return
		}
		l := b.list[0]
		b.list = b.list[1:]
		if len(b.waiters) > 0 {
			w := b.first()
			b.list = append(slices.Clip(b.list), w.m)
			m.wake(w.id)
			m.answer(w.id, api.OK, 0, 0)
		}
		e, n := m.deliver(q, l)
		m.replies(i, e, 0, n)
	}
}

func (m *model) callOfPorts(i int, q calls.Request) {
	o, c := &m.ports[q.Object], m.c.Ports[q.Object]
	out, queue := q.Call == calls.Write || q.Call == calls.Put, q.Call == calls.Put || q.Call == calls.Get
	if c.Out != out || c.Queue != queue {
		m.replies(i, api.ErrRights, 0, 0)
		return
	}
	if out {
		l, e := m.load(q)
		switch {
		case e != api.OK:
		case len(l) > c.Words:
			e = api.ErrRange
		case queue && len(o.list) == c.Room:
			e = api.ErrFull
		case queue:
			o.list = append(slices.Clip(o.list), l)
		default:
			o.list, o.written = [][]uint32{l}, true
		}
		m.replies(i, e, 0, 0)
		return
	}
	value := 0
	if queue && o.lost || !queue && m.now <= o.stamp+c.Refresh {
		value = 1
	}
	if queue {
		o.lost = false
	}
	if len(o.list) == 0 {
		if !queue {
			value = 0
		}
		m.replies(i, api.ErrNone, value, 0)
		return
	}
	e, n := m.deliver(q, o.list[0])
	if queue {
		o.list = o.list[1:]
	}
	m.replies(i, e, value, n)
}

func (m *model) End(now int) (out []part.Message) {
	for n := range m.ports {
		o, c := &m.ports[n], m.c.Ports[n]
		if !c.Out || !c.Queue && !o.written {
			continue
		}
		for _, l := range o.list {
			out = append(out, part.Message{Port: n, Words: l})
		}
		if o.written = false; c.Queue {
			o.list = nil
		}
	}
	return out
}

func (m *model) In(now int, l part.Message) api.Errno {
	if l.Port < 0 || l.Port >= len(m.ports) {
		return api.ErrNone
	}
	o, c := &m.ports[l.Port], m.c.Ports[l.Port]
	switch {
	case c.Out:
		return api.ErrRights
	case m.mode != 3:
		return api.ErrMode
	case len(l.Words) > c.Words:
		return api.ErrRange
	case !c.Queue:
		o.list, o.stamp = [][]uint32{l.Words}, now
	case len(o.list) == c.Room:
		o.lost = true
		return api.ErrLost
	default:
		o.list = append(slices.Clip(o.list), l.Words)
	}
	return api.OK
}

func (m *model) Back(port int, l [][]uint32) {
	if m.mode != 3 || port < 0 || port >= len(m.ports) {
		return
	}
	o, c := &m.ports[port], m.c.Ports[port]
	if !c.Out || !c.Queue || len(o.list)+len(l) > c.Room {
		return
	}
	for _, w := range l {
		if len(w) > c.Words {
			return
		}
	}
	o.list = append(slices.Clone(l), o.list...)
}

func (m *model) Room(port int) int {
	if m.mode != 3 || port < 0 || port >= len(m.ports) || m.c.Ports[port].Out {
		return 0
	}
	if m.c.Ports[port].Queue {
		return m.c.Ports[port].Room - len(m.ports[port].list)
	}
	return 1
}

func (m *model) View() part.View {
	v := part.View{Mode: m.mode, Starts: m.starts, Words: m.words}
	for i := range m.procs {
		v.States = append(v.States, m.procs[i].shown())
		v.Regs = append(v.Regs, m.procs[i].regs.R)
	}
	return v
}
