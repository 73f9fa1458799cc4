package book

import "slices"

// Names returns the names of the things of p of a kind, in order.
func (p Partition) Names(kind string) []string {
	switch kind {
	case "area":
		return names(p.Areas, func(a Area) string { return a.Name })
	case "task":
		return names(p.Tasks, func(t Task) string { return t.Name })
	case "lock":
		return names(p.Locks, func(l Lock) string { return l.Name })
	case "sema":
		return names(p.Semas, func(s Sema) string { return s.Name })
	case "event":
		return names(p.Events, func(v Event) string { return v.Name })
	case "board":
		return names(p.Boards, func(b Board) string { return b.Name })
	case "buffer":
		return names(p.Buffers, func(b Buffer) string { return b.Name })
	case "port":
		return names(p.Ports, func(q Port) string { return q.Name })
	}
	return nil
}

// Find returns the smallest index of a thing of p of that kind with that name, or -1.
func (p Partition) Find(kind, name string) int { return slices.Index(p.Names(kind), name) }

// Names returns the names of the things of m of a kind, in order.
func (m Module) Names(kind string) []string {
	switch kind {
	case "partition":
		return names(m.Partitions, func(p Partition) string { return p.Name })
	case "schedule":
		return names(m.Schedules, func(s Schedule) string { return s.Name })
	case "link":
		return names(m.Links, func(l Link) string { return l.Name })
	}
	return nil
}

// Find returns the smallest index of a thing of m of that kind with that name, or -1.
func (m Module) Find(kind, name string) int { return slices.Index(m.Names(kind), name) }

// names returns what name tells of each element of a list.
func names[T any](list []T, name func(T) string) []string {
	var told []string
	for _, x := range list {
		told = append(told, name(x))
	}
	return told
}
