package part

import (
	"slices"

	"monocoque/image"
)

// object is what can be cloned and compared.
type object[T any] interface {
	Clone() T
	Same(T) bool
}

func clones[T object[T]](l []T) []T {
	var all []T
	for _, o := range l {
		all = append(all, o.Clone())
	}
	return all
}

func same[T object[T]](a, b []T) bool { return slices.EqualFunc(a, b, T.Same) }

// clone returns a Config that shares nothing with c.
func (c Config) clone() Config {
	c.Areas = slices.Clone(c.Areas)
	c.Image.Sections = slices.Clone(c.Image.Sections)
	for i, s := range c.Image.Sections {
		c.Image.Sections[i].Words = slices.Clone(s.Words)
	}
	c.Image.Entries = slices.Clone(c.Image.Entries)
	c.Tasks = slices.Clone(c.Tasks)
	c.Ceilings = slices.Clone(c.Ceilings)
	c.Semas = slices.Clone(c.Semas)
	c.Boards = slices.Clone(c.Boards)
	c.Buffers = slices.Clone(c.Buffers)
	c.Ports = slices.Clone(c.Ports)
	c.Rules = slices.Clone(c.Rules)
	return c
}

func sameSection(a, b image.Section) bool { return a.At == b.At && slices.Equal(a.Words, b.Words) }

// same reports whether both are equal.
func (c Config) same(o Config) bool {
	return slices.Equal(c.Areas, o.Areas) &&
		slices.EqualFunc(c.Image.Sections, o.Image.Sections, sameSection) &&
		slices.Equal(c.Image.Entries, o.Image.Entries) &&
		slices.Equal(c.Tasks, o.Tasks) &&
		slices.Equal(c.Ceilings, o.Ceilings) &&
		slices.Equal(c.Semas, o.Semas) &&
		c.Events == o.Events &&
		slices.Equal(c.Boards, o.Boards) &&
		slices.Equal(c.Buffers, o.Buffers) &&
		slices.Equal(c.Ports, o.Ports) &&
		slices.Equal(c.Rules, o.Rules) &&
		c.Restarts == o.Restarts && c.Size == o.Size && c.Period == o.Period
}

// Clone returns an independent partition in the same state. Nothing changes the Config, so both have the same one.
func (p *Part) Clone() *Part {
	return &Part{
		config:   p.config,
		space:    p.space.Clone(),
		dispatch: p.dispatch.Clone(),
		threads:  slices.Clone(p.threads),
		locks:    p.locks.Clone(),
		semas:    clones(p.semas),
		events:   clones(p.events),
		boards:   clones(p.boards),
		buffers:  clones(p.buffers),
		ports:    clones(p.ports),
		monitor:  p.monitor.Clone(),
		life:     p.life.Clone(),
		budget:   p.budget.Clone(),
		told:     p.told,
	}
}

// Same reports whether both were made from the same Config and are in the same state.
func (p *Part) Same(o *Part) bool {
	return p.config.same(o.config) &&
		p.space.Same(o.space) &&
		p.dispatch.Same(o.dispatch) &&
		slices.Equal(p.threads, o.threads) &&
		p.locks.Same(o.locks) &&
		same(p.semas, o.semas) &&
		same(p.events, o.events) &&
		same(p.boards, o.boards) &&
		same(p.buffers, o.buffers) &&
		same(p.ports, o.ports) &&
		p.monitor.Same(o.monitor) &&
		p.life.Same(o.life) &&
		p.budget.Same(o.budget) &&
		p.told == o.told
}
