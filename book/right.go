package book

import "monocoque/api"

// Bounds that no other layer needs.
const (
	maxName   = 30          // bytes
	maxCount  = 65535       // of a semaphore
	maxRules  = 2 * MaxKind // of health, in each partition and in the module
	lastError = int(api.ErrFlow)
)

// Name reports whether s is a name: 1 to 30 bytes a to z, 0 to 9 and _, of which the first one is a to z.
func Name(s string) bool {
	if len(s) == 0 || len(s) > maxName || !letter(s[0]) {
		return false
	}
	for i := range len(s) {
		if c := s[i]; !letter(c) && !digit(c) && c != '_' {
			return false
		}
	}
	return true
}

func letter(c byte) bool { return c >= 'a' && c <= 'z' }

func digit(c byte) bool { return c >= '0' && c <= '9' }

// within reports whether n is one of from to to.
func within(n, from, to int) bool { return n >= from && n <= to }

// all reports whether a list, of whatever kind, has at most most elements, and each of them is right.
func all[T any](list []T, most int, right func(T) bool) bool {
	if len(list) > most {
		return false
	}
	for _, x := range list {
		if !right(x) {
			return false
		}
	}
	return true
}

// Right reports whether all lists, names and numbers of m are within their bounds.
// Whether they fit together is not asked here.
func (m Module) Right() bool {
	return Name(m.Name) &&
		within(m.Mode, 0, MaxSchedules-1) &&
		all(m.Partitions, MaxParts, Partition.right) &&
		all(m.Schedules, MaxSchedules, Schedule.right) &&
		all(m.Channels, MaxChannels, Channel.right) &&
		all(m.Links, MaxLinks, Link.right) &&
		all(m.Health, maxRules, Rule.right)
}

func (p Partition) right() bool {
	return Name(p.Name) &&
		within(p.Restarts, 0, MaxRestarts) &&
		p.Budget.right() &&
		all(p.Areas, MaxKind, Area.right) &&
		all(p.Tasks, MaxKind, Task.right) &&
		all(p.Locks, MaxKind, func(l Lock) bool { return Name(l.Name) && within(l.Ceiling, 1, MaxPriority) }) &&
		all(p.Semas, MaxKind, Sema.right) &&
		all(p.Events, MaxKind, func(v Event) bool { return Name(v.Name) }) &&
		all(p.Boards, MaxKind, func(b Board) bool { return Name(b.Name) && within(b.Words, 1, MaxMessage) }) &&
		all(p.Buffers, MaxKind, Buffer.right) &&
		all(p.Ports, MaxKind, Port.right) &&
		all(p.Health, maxRules, Rule.right)
}

func (a Area) right() bool {
	return Name(a.Name) &&
		within(a.From, 0, MaxSpace-1) &&
		within(a.Words, 1, MaxSpace)
}

func (t Task) right() bool {
	return Name(t.Name) &&
		within(t.Entry, 0, MaxSpace-1) &&
		within(t.Stack, 0, MaxSpace) &&
		within(t.Priority, 1, MaxPriority) &&
		within(t.Period, 0, MaxFrame) &&
		within(t.Capacity, 0, MaxFrame) &&
		within(t.Deadline, 0, MaxFrame) &&
		within(t.Offset, 0, MaxFrame)
}

func (s Sema) right() bool {
	return Name(s.Name) &&
		within(s.First, 0, maxCount) &&
		within(s.Most, 1, maxCount)
}

func (b Buffer) right() bool {
	return Name(b.Name) &&
		within(b.Words, 1, MaxMessage) &&
		within(b.Room, 1, MaxRoom)
}

func (p Port) right() bool {
	return Name(p.Name) &&
		within(p.Words, 1, MaxMessage) &&
		within(p.Room, 0, MaxRoom) &&
		within(p.Refresh, 0, MaxFrame)
}

func (r Rule) right() bool {
	return within(r.Error, 1, lastError) &&
		within(r.Level, LevelProcess, LevelWhole) &&
		within(r.Do, Ignore, Halt)
}

func (b Budget) right() bool {
	return within(b.Size, 0, MaxFrame) && within(b.Period, 0, MaxFrame)
}

func (s Schedule) right() bool {
	return Name(s.Name) &&
		within(s.Frame, 1, MaxFrame) &&
		all(s.Windows, MaxWindows, Window.right)
}

func (w Window) right() bool {
	return within(w.Partition, 0, MaxParts-1) &&
		within(w.From, 0, MaxFrame) &&
		within(w.Length, 1, MaxFrame)
}

func (c Channel) right() bool {
	return c.From.right() && all(c.To, MaxGoals, End.right)
}

func (e End) right() bool {
	return within(e.Partition, Outside, MaxParts-1) && within(e.Port, 0, MaxKind-1)
}

func (l Link) right() bool {
	return Name(l.Name) &&
		within(l.Channel, 0, MaxChannels-1) &&
		within(l.Gap, 0, MaxFrame)
}
