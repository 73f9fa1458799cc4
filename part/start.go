package part

import (
	"monocoque/api"
	"monocoque/board"
	"monocoque/budget"
	"monocoque/buffer"
	"monocoque/cpu"
	"monocoque/dispatch"
	"monocoque/event"
	"monocoque/health"
	"monocoque/image"
	"monocoque/life"
	"monocoque/lock"
	"monocoque/proc"
	"monocoque/sema"
	"monocoque/space"
)

// most is how many semaphores there can be, and events, boards, buffers or ports.
const most = 16

// step is one of those that make a partition.
type step func() api.Errno

// inOrder takes steps until one of them has an error, and returns it.
func inOrder(steps ...step) api.Errno {
	for _, s := range steps {
		if e := s(); e != api.OK {
			return e
		}
	}
	return api.OK
}

// making returns the step that makes a thing of each one of a list.
func making[S, T any](things *[]T, list []S, one func(S) (T, api.Errno)) step {
	return func() api.Errno {
		made := make([]T, 0, len(list))
		for _, s := range list {
			t, e := one(s)
			if e != api.OK {
				return e
			}
			made = append(made, t)
		}
		*things = made
		return api.OK
	}
}

func (p *Part) makeSpace() (e api.Errno) {
	p.space, e = space.New(p.config.Areas)
	return e
}

// makeFresh makes everything but the space, the life and the budget, and loads the image.
func (p *Part) makeFresh() api.Errno {
	c := p.config
	return inOrder(
		func() api.Errno { return image.Load(c.Image, p.space) },
		p.makeDispatch,
		making(&p.threads, c.Tasks, p.newThread),
		p.makeLocks,
		c.checkNumbers,
		making(&p.semas, c.Semas, newSema),
		p.makeEvents,
		making(&p.boards, c.Boards, board.New),
		making(&p.buffers, c.Buffers, newBuffer),
		making(&p.ports, c.Ports, newPort),
		p.makeMonitor,
	)
}

func (p *Part) makeDispatch() (e api.Errno) {
	var attrs []proc.Attr
	for _, t := range p.config.Tasks {
		attrs = append(attrs, t.Attr)
	}
	p.dispatch, e = dispatch.New(attrs)
	return e
}

// newThread returns what a task has that is dormant.
func (p *Part) newThread(t Task) (thread, api.Errno) {
	entries := p.config.Image.Entries
	if t.Entry < 0 || t.Entry >= len(entries) || t.Floor < 0 || t.Top < t.Floor || t.Top > 1<<16 {
		return thread{}, api.ErrRange
	}
	return thread{regs: cpu.Fresh(uint32(entries[t.Entry]), uint32(t.Floor), uint32(t.Top))}, api.OK
}

func (p *Part) makeLocks() (e api.Errno) {
	p.locks, e = lock.New(p.config.Ceilings)
	return e
}

// checkNumbers tells whether there are too many things of a kind.
func (c Config) checkNumbers() api.Errno {
	switch {
	case len(c.Semas) > most || len(c.Boards) > most || len(c.Buffers) > most || len(c.Ports) > most:
		return api.ErrFull
	case c.Events < 0:
		return api.ErrRange
	case c.Events > most:
		return api.ErrFull
	}
	return api.OK
}

func newSema(s Sema) (*sema.Sema, api.Errno) { return sema.New(s.First, s.Most, s.ByPriority) }

func (p *Part) makeEvents() api.Errno {
	return making(&p.events, make([]struct{}, p.config.Events), newEvent)()
}

func newEvent(struct{}) (*event.Event, api.Errno) { return event.New(), api.OK }

func newBuffer(b Buffer) (*buffer.Buffer, api.Errno) {
	return buffer.New(b.Words, b.Room, b.ByPriority)
}

func (p *Part) makeMonitor() (e api.Errno) {
	p.monitor, e = health.New(p.config.Rules, false)
	return e
}

func (p *Part) makeLife() (e api.Errno) {
	p.life, e = life.New(p.config.Restarts)
	return e
}

func (p *Part) makeBudget() (e api.Errno) {
	p.told = 0
	if p.config.Size != 0 {
		p.budget, e = budget.New(p.config.Size, p.config.Period)
	}
	return e
}

// reset makes the partition as New made it, except that its life goes on and, if it is warm, the words of areas with
// Keep are preserved. What could be made once can be made again.
func (p *Part) reset(warm bool) {
	words := p.space.Words()
	p.space.Fresh(false)
	inOrder(p.makeFresh, p.makeBudget)
	if warm {
		p.preserve(words)
	}
}

// preserve sets the words of areas with Keep to what they were among all words.
func (p *Part) preserve(words []uint32) {
	for _, a := range p.space.Areas() {
		if a.Keep {
			p.space.Fill(uint32(a.From), words[:a.Words])
		}
		words = words[a.Words:]
	}
}
