package part

import (
	"monocoque/api"
	"monocoque/calls"
)

// with lets a call do something with its words, if all of them can be loaded.
func (p *Part) with(q calls.Request, do func(m []uint32) reply) reply {
	var m []uint32
	for n := range uint32(q.Words) {
		w, e := p.space.Load(q.At + n)
		if e != api.OK {
			return say(e)
		}
		m = append(m, w)
	}
	return do(m)
}

// deliver stores a message at the place that was asked for, and returns the answer.
func (p *Part) deliver(q calls.Request, m []uint32) calls.Answer {
	for n, w := range m {
		if e := p.space.Store(q.At+uint32(n), w); e != api.OK {
			return calls.Answer{E: e}
		}
	}
	return calls.Answer{Words: len(m)}
}

// gets lets the process that asked for a message get it, with a mark.
func (p *Part) gets(q calls.Request, m []uint32, mark bool) reply {
	a := p.deliver(q, m)
	if mark {
		a.Value = 1
	}
	return reply{a, true}
}

func (t *turn) show(o int, m []uint32) reply {
	woken, e := t.boards[o].Show(m)
	for _, n := range woken {
		t.hand(n, m)
	}
	return say(e)
}

func (t *turn) hide(o int) reply {
	t.boards[o].Clear()
	return say(api.OK)
}

func (t *turn) look(i int, q calls.Request) reply {
	m, is := t.boards[q.Object].Read(i)
	if !is {
		return t.wait(i, q)
	}
	return t.gets(q, m, false)
}

func (t *turn) send(i int, q calls.Request, m []uint32) reply {
	d, e := t.buffers[q.Object].Send(i, t.current(i), m)
	if e != api.OK {
		return say(e)
	}
	if d.Woken >= 0 {
		t.hand(d.Woken, d.M)
	}
	return t.unless(d.Now, i, q)
}

func (t *turn) receive(i int, q calls.Request) reply {
	d, e := t.buffers[q.Object].Receive(i, t.current(i))
	switch {
	case e != api.OK:
		return say(e)
	case !d.Now:
		return t.wait(i, q)
	case d.Woken >= 0:
		t.grant(d.Woken)
	}
	return t.gets(q, d.M, false)
}
