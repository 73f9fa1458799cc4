package text

import "monocoque/book"

// A kind adds a further thing of its kind to a module, and returns the thing's fields.
// It returns nothing if there is nothing that such a thing could belong to.
type kind func(m *book.Module) []field

// kinds returns all kinds by their words.
func kinds() map[string]kind {
	return map[string]kind{
		"module":    moduleFields,
		"partition": func(m *book.Module) []field { return partitionFields(more(&m.Partitions)) },
		"area":      ofPartition(func(p *book.Partition) []field { return areaFields(more(&p.Areas)) }),
		"task":      ofPartition(func(p *book.Partition) []field { return taskFields(more(&p.Tasks)) }),
		"lock":      ofPartition(func(p *book.Partition) []field { return lockFields(more(&p.Locks)) }),
		"sema":      ofPartition(func(p *book.Partition) []field { return semaFields(more(&p.Semas)) }),
		"event":     ofPartition(func(p *book.Partition) []field { return eventFields(more(&p.Events)) }),
		"board":     ofPartition(func(p *book.Partition) []field { return boardFields(more(&p.Boards)) }),
		"buffer":    ofPartition(func(p *book.Partition) []field { return bufferFields(more(&p.Buffers)) }),
		"port":      ofPartition(func(p *book.Partition) []field { return portFields(more(&p.Ports)) }),
		"rule":      ofPartition(func(p *book.Partition) []field { return ruleFields(more(&p.Health)) }),
		"schedule":  func(m *book.Module) []field { return scheduleFields(more(&m.Schedules)) },
		"window":    ofSchedule(func(s *book.Schedule) []field { return windowFields(more(&s.Windows)) }),
		"channel":   func(m *book.Module) []field { return channelFields(more(&m.Channels)) },
		"to":        ofChannel(func(c *book.Channel) []field { return endFields(more(&c.To)) }),
		"link":      func(m *book.Module) []field { return linkFields(more(&m.Links)) },
		"health":    func(m *book.Module) []field { return ruleFields(more(&m.Health)) },
	}
}

func ofPartition(add func(*book.Partition) []field) kind {
	return func(m *book.Module) []field { return ofLast(m.Partitions, add) }
}

func ofSchedule(add func(*book.Schedule) []field) kind {
	return func(m *book.Module) []field { return ofLast(m.Schedules, add) }
}

func ofChannel(add func(*book.Channel) []field) kind {
	return func(m *book.Module) []field { return ofLast(m.Channels, add) }
}

// ofLast adds something to the last element of a list, if there is one.
func ofLast[T any](list []T, add func(*T) []field) []field {
	if len(list) == 0 {
		return nil
	}
	return add(&list[len(list)-1])
}

// more adds an element to a list, and returns it.
func more[T any](list *[]T) *T {
	var zero T
	*list = append(*list, zero)
	return &(*list)[len(*list)-1]
}

func moduleFields(m *book.Module) []field {
	return []field{name(&m.Name), number(&m.Mode)}
}

func partitionFields(p *book.Partition) []field {
	return []field{name(&p.Name), number(&p.Restarts), number(&p.Budget.Size), number(&p.Budget.Period)}
}

func areaFields(a *book.Area) []field {
	return []field{name(&a.Name), number(&a.From), number(&a.Words), rights(&a.Write, &a.Run, &a.Keep)}
}

func taskFields(t *book.Task) []field {
	return []field{
		name(&t.Name), number(&t.Entry), number(&t.Stack), number(&t.Priority),
		number(&t.Period), number(&t.Capacity), number(&t.Deadline), number(&t.Offset),
	}
}

func lockFields(l *book.Lock) []field {
	return []field{name(&l.Name), number(&l.Ceiling)}
}

func semaFields(s *book.Sema) []field {
	return []field{name(&s.Name), number(&s.First), number(&s.Most), order(&s.ByPriority)}
}

func eventFields(v *book.Event) []field {
	return []field{name(&v.Name)}
}

func boardFields(b *book.Board) []field {
	return []field{name(&b.Name), number(&b.Words)}
}

func bufferFields(b *book.Buffer) []field {
	return []field{name(&b.Name), number(&b.Words), number(&b.Room), order(&b.ByPriority)}
}

func portFields(p *book.Port) []field {
	return []field{
		name(&p.Name), flag(&p.Out, "in", "out"), flag(&p.Queue, "sampling", "queuing"),
		number(&p.Words), number(&p.Room), number(&p.Refresh),
	}
}

func ruleFields(r *book.Rule) []field {
	return []field{number(&r.Error), level(&r.Level), action(&r.Do)}
}

func scheduleFields(s *book.Schedule) []field {
	return []field{name(&s.Name), number(&s.Frame)}
}

func windowFields(w *book.Window) []field {
	return []field{number(&w.Partition), number(&w.From), number(&w.Length)}
}

func channelFields(c *book.Channel) []field {
	return endFields(&c.From)
}

func endFields(e *book.End) []field {
	return []field{end(&e.Partition), number(&e.Port)}
}

func linkFields(l *book.Link) []field {
	return []field{name(&l.Name), number(&l.Channel), number(&l.Gap)}
}
