package book

import "slices"

// Same reports whether a and b are equal, with the order of all lists; a nil list equals an empty one.
func Same(a, b Module) bool {
	return a.Name == b.Name &&
		a.Mode == b.Mode &&
		slices.EqualFunc(a.Partitions, b.Partitions, Partition.same) &&
		slices.EqualFunc(a.Schedules, b.Schedules, Schedule.same) &&
		slices.EqualFunc(a.Channels, b.Channels, Channel.same) &&
		slices.Equal(a.Links, b.Links) &&
		slices.Equal(a.Health, b.Health)
}

func (p Partition) same(q Partition) bool {
	return p.Name == q.Name &&
		p.Restarts == q.Restarts &&
		p.Budget == q.Budget &&
		slices.Equal(p.Areas, q.Areas) &&
		slices.Equal(p.Tasks, q.Tasks) &&
		slices.Equal(p.Locks, q.Locks) &&
		slices.Equal(p.Semas, q.Semas) &&
		slices.Equal(p.Events, q.Events) &&
		slices.Equal(p.Boards, q.Boards) &&
		slices.Equal(p.Buffers, q.Buffers) &&
		slices.Equal(p.Ports, q.Ports) &&
		slices.Equal(p.Health, q.Health)
}

func (s Schedule) same(t Schedule) bool {
	return s.Name == t.Name && s.Frame == t.Frame && slices.Equal(s.Windows, t.Windows)
}

func (c Channel) same(d Channel) bool {
	return c.From == d.From && slices.Equal(c.To, d.To)
}

// Clone returns a module that is equal to m and shares no list with it.
func (m Module) Clone() Module {
	m.Partitions = clones(m.Partitions, Partition.clone)
	m.Schedules = clones(m.Schedules, Schedule.clone)
	m.Channels = clones(m.Channels, Channel.clone)
	m.Links = slices.Clone(m.Links)
	m.Health = slices.Clone(m.Health)
	return m
}

// clones is for elements that have lists of their own, which slices.Clone would share.
func clones[T any](list []T, clone func(T) T) []T {
	list = slices.Clone(list)
	for i, x := range list {
		list[i] = clone(x)
	}
	return list
}

func (p Partition) clone() Partition {
	p.Areas = slices.Clone(p.Areas)
	p.Tasks = slices.Clone(p.Tasks)
	p.Locks = slices.Clone(p.Locks)
	p.Semas = slices.Clone(p.Semas)
	p.Events = slices.Clone(p.Events)
	p.Boards = slices.Clone(p.Boards)
	p.Buffers = slices.Clone(p.Buffers)
	p.Ports = slices.Clone(p.Ports)
	p.Health = slices.Clone(p.Health)
	return p
}

func (s Schedule) clone() Schedule {
	s.Windows = slices.Clone(s.Windows)
	return s
}

func (c Channel) clone() Channel {
	c.To = slices.Clone(c.To)
	return c
}

// Size returns the number of all things of m.
func (m Module) Size() int {
	return total(m.Partitions, Partition.size) +
		total(m.Schedules, func(s Schedule) int { return len(s.Windows) }) +
		total(m.Channels, func(c Channel) int { return len(c.To) }) +
		len(m.Links) +
		len(m.Health)
}

// total returns the number of elements of a list, together with what each of them has.
func total[T any](list []T, has func(T) int) int {
	n := len(list)
	for _, x := range list {
		n += has(x)
	}
	return n
}

func (p Partition) size() int {
	return len(p.Areas) + len(p.Tasks) + len(p.Locks) + len(p.Semas) + len(p.Events) +
		len(p.Boards) + len(p.Buffers) + len(p.Ports) + len(p.Health)
}
