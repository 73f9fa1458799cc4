package pack

import "monocoque/book"

func module(c coder, m *book.Module) {
	c.text(&m.Name)
	list(c, &m.Partitions, partition)
	list(c, &m.Schedules, schedule)
	c.numbers(&m.Mode)
	list(c, &m.Channels, channel)
	list(c, &m.Links, link)
	list(c, &m.Health, rule)
}

func partition(c coder, p *book.Partition) {
	c.text(&p.Name)
	list(c, &p.Areas, area)
	list(c, &p.Tasks, task)
	list(c, &p.Locks, lock)
	list(c, &p.Semas, sema)
	list(c, &p.Events, event)
	list(c, &p.Boards, board)
	list(c, &p.Buffers, buffer)
	list(c, &p.Ports, port)
	list(c, &p.Health, rule)
	c.numbers(&p.Restarts, &p.Budget.Size, &p.Budget.Period)
}

func area(c coder, a *book.Area) {
	c.text(&a.Name)
	c.numbers(&a.From, &a.Words)
	c.bools(&a.Write, &a.Run, &a.Keep)
}

func task(c coder, t *book.Task) {
	c.text(&t.Name)
	c.numbers(&t.Entry, &t.Stack, &t.Priority, &t.Period, &t.Capacity, &t.Deadline, &t.Offset)
}

func lock(c coder, l *book.Lock) {
	c.text(&l.Name)
	c.numbers(&l.Ceiling)
}

func sema(c coder, s *book.Sema) {
	c.text(&s.Name)
	c.numbers(&s.First, &s.Most)
	c.bools(&s.ByPriority)
}

func event(c coder, v *book.Event) {
	c.text(&v.Name)
}

func board(c coder, b *book.Board) {
	c.text(&b.Name)
	c.numbers(&b.Words)
}

func buffer(c coder, b *book.Buffer) {
	c.text(&b.Name)
	c.numbers(&b.Words, &b.Room)
	c.bools(&b.ByPriority)
}

func port(c coder, p *book.Port) {
	c.text(&p.Name)
	c.bools(&p.Out, &p.Queue)
	c.numbers(&p.Words, &p.Room, &p.Refresh)
}

func rule(c coder, r *book.Rule) {
	c.numbers(&r.Error, &r.Level, &r.Do)
}

func schedule(c coder, s *book.Schedule) {
	c.text(&s.Name)
	c.numbers(&s.Frame)
	list(c, &s.Windows, window)
}

func window(c coder, w *book.Window) {
	c.numbers(&w.Partition, &w.From, &w.Length)
}

func channel(c coder, h *book.Channel) {
	end(c, &h.From)
	list(c, &h.To, end)
}

func end(c coder, e *book.End) {
	c.numbers(&e.Partition, &e.Port)
}

func link(c coder, l *book.Link) {
	c.text(&l.Name)
	c.numbers(&l.Channel, &l.Gap)
}
