package part

import (
	"monocoque/api"
	"monocoque/calls"
	"monocoque/queuing"
	"monocoque/sampling"
)

// port is one of both kinds; the other one is nil.
type port struct {
	Port
	sampling *sampling.Port
	queue    *queuing.Queue
	written  bool // a sampling out port was written, and its message did not leave yet
}

func newPort(c Port) (port, api.Errno) {
	p := port{Port: c}
	var e api.Errno
	if c.Queue {
		p.queue, e = queuing.New(c.Words, c.Room)
	} else {
		p.sampling, e = sampling.New(c.Words, c.Refresh)
	}
	return p, e
}

// Clone returns an independent port that is equal.
func (p port) Clone() port {
	p.sampling, p.queue = p.sampling.Clone(), p.queue.Clone()
	return p
}

// Same reports whether both are equal.
func (p port) Same(o port) bool {
	return p.Port == o.Port && p.written == o.written && p.sampling.Same(o.sampling) && p.queue.Same(o.queue)
}

// leaving returns the messages that leave the partition from a port, which has them no longer.
func (p *port) leaving(now int) [][]uint32 {
	switch {
	case p.Out && p.Queue:
		return p.queue.Drain()
	case p.written:
		p.written = false
		m, _, _ := p.sampling.Read(now)
		return [][]uint32{m}
	}
	return nil
}

// End ends a window, and returns the messages that leave the partition.
func (p *Part) End(now int) []Message {
	var out []Message
	for n := range p.ports {
		for _, m := range p.ports[n].leaving(now) {
			out = append(out, Message{Port: n, Words: m})
		}
	}
	return out
}

// In delivers a message to a port.
func (p *Part) In(now int, m Message) api.Errno {
	switch {
	case !p.hasPort(m.Port):
		return api.ErrNone
	case p.ports[m.Port].Out:
		return api.ErrRights
	case !p.isNormal():
		return api.ErrMode
	case p.ports[m.Port].Queue:
		return p.ports[m.Port].queue.Push(m.Words)
	}
	return p.ports[m.Port].sampling.Write(now, m.Words)
}

// Back puts messages that left a queuing out port back ahead of all others.
func (p *Part) Back(port int, l [][]uint32) {
	if p.isNormal() && p.hasPort(port) && p.ports[port].Out {
		p.ports[port].queue.Back(l) // which a sampling port does not have
	}
}

// Room returns how many messages can be delivered to a port.
func (p *Part) Room(port int) int {
	switch {
	case !p.isNormal() || !p.hasPort(port) || p.ports[port].Out:
		return 0
	case p.ports[port].Queue:
		return p.ports[port].queue.Free()
	}
	return 1
}

func (p *Part) hasPort(n int) bool { return n >= 0 && n < len(p.ports) }

// at returns the port of a request, if it is of this kind.
func (p *Part) at(q calls.Request, out, queue bool) (*port, bool) {
	is := &p.ports[q.Object]
	return is, is.Out == out && is.Queue == queue
}

func (t *turn) write(q calls.Request) reply {
	to, ok := t.at(q, true, false)
	if !ok {
		return say(api.ErrRights)
	}
	return t.with(q, func(m []uint32) reply {
		e := to.sampling.Write(t.now, m)
		to.written = to.written || e == api.OK
		return say(e)
	})
}

func (t *turn) put(q calls.Request) reply {
	to, ok := t.at(q, true, true)
	if !ok {
		return say(api.ErrRights)
	}
	return t.with(q, func(m []uint32) reply { return say(to.queue.Send(m)) })
}

func (t *turn) read(q calls.Request) reply {
	from, ok := t.at(q, false, false)
	if !ok {
		return say(api.ErrRights)
	}
	m, valid, e := from.sampling.Read(t.now)
	if e != api.OK {
		return say(e)
	}
	return t.gets(q, m, valid)
}

func (t *turn) get(q calls.Request) reply {
	from, ok := t.at(q, false, true)
	if !ok {
		return say(api.ErrRights)
	}
	m, is, lost := from.queue.Receive()
	r := t.gets(q, m, lost)
	if !is {
		r.E = api.ErrNone
	}
	return r
}
