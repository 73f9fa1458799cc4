package rules_test

import (
	"math/rand"
	"slices"
	"strconv"
	"strings"
	"testing"

	"monocoque/api"
	"monocoque/book"
	"monocoque/frame"
	"monocoque/meet"
	"monocoque/rules"
)

// slow is what All returns, by the words of the chapter's table: each fault is looked for by itself.
type slow struct {
	m      book.Module
	faults []rules.Fault
}

func (s *slow) when(broken bool, rule int, at ...int) {
	if broken {
		s.faults = append(s.faults, fault(rule, at...))
	}
}

func slowAll(m book.Module) []rules.Fault {
	s := &slow{m: m}
	s.when(!m.Right(), 1)
	if len(s.faults) > 0 {
		return s.faults
	}
	s.names()
	for i := range m.Partitions {
		s.areas(i)
	}
	s.windows()
	s.when(m.Mode < 0 || m.Mode > len(m.Schedules)-1, 5)
	for i, p := range m.Partitions {
		for j := range p.Tasks {
			s.when(s.badTask(p, j), 6, i, j)
		}
	}
	for i, p := range m.Partitions {
		for j, x := range p.Semas {
			s.when(x.Most < x.First, 7, i, j)
		}
	}
	for i, p := range m.Partitions {
		for j, x := range p.Ports {
			s.when(x.Queue && x.Room == 0, 8, i, j)
			s.when(x.Queue && x.Room != 0 && x.Refresh != 0, 8, i, j)
			s.when(!x.Queue && x.Room != 0, 8, i, j)
		}
	}
	s.ends()
	s.once()
	s.alike()
	s.links()
	s.health()
	for i, p := range m.Partitions {
		s.when(p.Budget.Size > p.Budget.Period || p.Budget.Period > 0 && p.Budget.Size == 0, 15, i)
	}
	if len(s.faults) == 0 {
		s.deadlines()
	}
	return s.faults
}

func (s *slow) twice(names []string, at ...int) {
	for i := range names {
		s.when(slices.Contains(names[:i], names[i]), 2, append(slices.Clone(at), i)...)
	}
}

func (s *slow) names() {
	s.twice(s.m.Names("partition"), -1, 0)
	s.twice(s.m.Names("schedule"), -1, 1)
	s.twice(s.m.Names("link"), -1, 2)
	for i, p := range s.m.Partitions {
		for k, kind := range strings.Fields("area task lock sema event board buffer port") {
			s.twice(p.Names(kind), i, k)
		}
	}
}

func (s *slow) areas(i int) {
	var owned [3 * 4096]bool
	words := 0
	for j, a := range s.m.Partitions[i].Areas {
		broken := false
		for at := a.From; at < a.From+a.Words; at++ {
			broken = broken || owned[at]
			owned[at] = true
			words++
		}
		s.when(broken || words > 4096, 3, i, j)
	}
}

// slowTable returns the table of a schedule.
func slowTable(x book.Schedule) frame.Table {
	t := frame.Table{Frame: x.Frame, Windows: make([]frame.Window, len(x.Windows))}
	for i, w := range x.Windows {
		t.Windows[i].Who, t.Windows[i].From, t.Windows[i].Length = w.Partition, w.From, w.Length
	}
	return t
}

func (s *slow) windows() {
	for i, x := range s.m.Schedules {
		e := slowTable(x).Check()
		s.when(e != api.OK, 4, i)
		for j, w := range x.Windows {
			s.when(e == api.OK && w.Partition > len(s.m.Partitions)-1, 4, i, j)
		}
	}
}

func (s *slow) badTask(p book.Partition, j int) bool {
	x := p.Tasks[j]
	if x.Deadline != 0 {
		if x.Period != 0 && x.Deadline > x.Period {
			return true
		}
		if x.Capacity == 0 || x.Capacity > x.Deadline {
			return true
		}
	}
	for k, y := range p.Tasks {
		if k != j && y.Deadline != 0 && y.Priority <= x.Priority && (x.Period == 0 || x.Capacity == 0) {
			return true
		}
	}
	return false
}

// exists reports whether an end is a port.
func (s *slow) exists(e book.End) bool {
	return e.Partition >= 0 && e.Partition < len(s.m.Partitions) && e.Port < len(s.m.Partitions[e.Partition].Ports)
}

func (s *slow) port(e book.End) book.Port { return s.m.Partitions[e.Partition].Ports[e.Port] }

func (s *slow) ends() {
	for i, c := range s.m.Channels {
		fine := s.exists(c.From) && s.port(c.From).Out || c.From.Partition == -1 && c.From.Port == 0
		s.when(!fine || len(c.To) == 0, 9, i)
		for j, e := range c.To {
			fine := s.exists(e) && !s.port(e).Out || e.Partition == -1 && e.Port == 0
			for _, o := range append([]book.End{c.From}, c.To[:j]...) {
				fine = fine && (e.Partition != -1 || o.Partition != -1)
			}
			s.when(!fine, 9, i, j)
		}
	}
}

func (s *slow) once() {
	var earlier []book.End
	for i, c := range s.m.Channels {
		s.when(s.exists(c.From) && slices.Contains(earlier, c.From), 10, i)
		earlier = append(earlier, c.From)
		for j, e := range c.To {
			s.when(s.exists(e) && slices.Contains(earlier, e), 10, i, j)
			earlier = append(earlier, e)
		}
	}
}

func (s *slow) alike() {
	for i, c := range s.m.Channels {
		queues := s.exists(c.From) && s.port(c.From).Queue
		for _, e := range c.To {
			queues = queues || s.exists(e) && s.port(e).Queue
		}
		s.when(queues && len(c.To) > 1, 11, i)
		first := c.From
		if first.Partition == -1 && len(c.To) > 0 {
			first = c.To[0]
		}
		if !s.exists(first) {
			continue
		}
		a := s.port(first)
		for j, e := range c.To {
			if s.exists(e) {
				b := s.port(e)
				s.when(a.Queue && !b.Queue || b.Queue && !a.Queue || a.Words != b.Words, 11, i, j)
			}
		}
	}
}

func (s *slow) links() {
	leaves := func(i int) bool {
		if i >= len(s.m.Channels) {
			return false
		}
		for _, e := range append([]book.End{s.m.Channels[i].From}, s.m.Channels[i].To...) {
			if e.Partition == -1 {
				return true
			}
		}
		return false
	}
	var has []int
	for i, l := range s.m.Links {
		s.when(!leaves(l.Channel) || slices.Contains(has, l.Channel), 12, i)
		has = append(has, l.Channel)
	}
	for i := range s.m.Channels {
		s.when(leaves(i) && !slices.Contains(has, i), 13, i)
	}
}

func (s *slow) health() {
	for i, p := range s.m.Partitions {
		seen := map[string]bool{}
		for j, r := range p.Health {
			key := strconv.Itoa(r.Error) + " " + strconv.Itoa(r.Level)
			does := strconv.Itoa(r.Level) + strconv.Itoa(r.Do)
			s.when(seen[key] || !strings.Contains("00 01 02 03 10 11 14 15 16", does), 14, i, j)
			seen[key] = true
		}
	}
	seen := map[int]bool{}
	for j, r := range s.m.Health {
		s.when(seen[r.Error] || r.Level != 2 || r.Do > 1, 14, -1, j)
		seen[r.Error] = true
	}
}

func (s *slow) deadlines() {
	for i, x := range s.m.Schedules {
		for j, p := range s.m.Partitions {
			has := slices.ContainsFunc(x.Windows, func(w book.Window) bool { return w.Partition == j })
			for k, own := range p.Tasks {
				s.when(has && own.Deadline > 0 && s.late(slowTable(x), j, k), 16, i, j, k)
			}
		}
	}
}

func (s *slow) late(t frame.Table, j, k int) bool {
	p := s.m.Partitions[j]
	own := p.Tasks[k]
	block, endless := 0, false
	for _, l := range p.Locks {
		for _, x := range p.Tasks {
			if l.Ceiling >= own.Priority && x.Priority < own.Priority {
				block = max(block, x.Capacity)
				endless = endless || x.Capacity == 0
			}
		}
	}
	var l []meet.Task
	at := -1
	for n, x := range p.Tasks {
		if x.Capacity > 0 {
			if n == k {
				at = len(l)
			}
			l = append(l, meet.Task{Priority: x.Priority, Period: x.Period, Capacity: x.Capacity, Deadline: x.Deadline, Block: block})
		}
	}
	_, e := meet.Response(t, j, l, at)
	return endless || e != api.OK
}

// random returns a right module of few, small things, so that many of its numbers and names fit each other.
func random(dice *rand.Rand) book.Module {
	name := func() string { return "abcdefghijklmnopqrstuvwxyz"[:1+dice.Intn(26)] }
	m := book.Module{Name: "m", Mode: dice.Intn(2)}
	for range 1 + dice.Intn(3) {
		p := book.Partition{Name: name()}
		for range dice.Intn(3) {
			p.Areas = append(p.Areas, book.Area{Name: name(), From: dice.Intn(30), Words: 1 + dice.Intn(10)})
		}
		for range dice.Intn(4) {
			x := book.Task{Name: name(), Priority: 1 + dice.Intn(3), Period: dice.Intn(2) * (20 + dice.Intn(9)), Capacity: dice.Intn(4)}
			if dice.Intn(3) > 0 {
				x.Period, x.Deadline = 30, 5+dice.Intn(25)
			}
			p.Tasks = append(p.Tasks, x)
		}
		for range dice.Intn(2) {
			p.Locks = append(p.Locks, book.Lock{Name: name(), Ceiling: 1 + dice.Intn(4)})
			p.Semas = append(p.Semas, book.Sema{Name: name(), First: dice.Intn(3), Most: 1 + dice.Intn(3)})
		}
		for range dice.Intn(5) {
			x := book.Port{Name: name(), Out: dice.Intn(2) == 0, Words: 1 + dice.Intn(2)}
			if dice.Intn(4) == 0 {
				x.Queue, x.Room = true, dice.Intn(5)
			}
			p.Ports = append(p.Ports, x)
		}
		p.Health = randomRules(dice, 2)
		if dice.Intn(3) == 0 {
			p.Budget = book.Budget{Size: dice.Intn(4), Period: dice.Intn(6)}
		}
		m.Partitions = append(m.Partitions, p)
	}
	for range 1 + dice.Intn(2) {
		m.Schedules = append(m.Schedules, randomSchedule(dice, name()))
	}
	for range dice.Intn(4) {
		c := book.Channel{From: randomEnd(dice)}
		for range dice.Intn(4) {
			c.To = append(c.To, randomEnd(dice))
		}
		m.Channels = append(m.Channels, c)
	}
	for range dice.Intn(3) {
		m.Links = append(m.Links, book.Link{Name: name(), Channel: dice.Intn(4)})
	}
	m.Health = randomRules(dice, 3)
	return m
}

func randomRules(dice *rand.Rand, levels int) []book.Rule {
	var l []book.Rule
	for range dice.Intn(4) * dice.Intn(2) {
		l = append(l, book.Rule{Error: 1 + dice.Intn(4), Level: levels - 1 - dice.Intn(2)*dice.Intn(levels), Do: dice.Intn(7) * dice.Intn(2)})
	}
	return l
}

func randomEnd(dice *rand.Rand) book.End {
	if dice.Intn(5) == 0 {
		return end(outside, dice.Intn(2)*dice.Intn(2))
	}
	return end(dice.Intn(3), dice.Intn(4))
}

func randomSchedule(dice *rand.Rand, name string) book.Schedule {
	s := book.Schedule{Name: name, Frame: 12}
	for from := 0; from < 12; {
		length := 1 + dice.Intn(6)
		s.Windows = append(s.Windows, window(dice.Intn(3), from, length))
		from += length + dice.Intn(3) - dice.Intn(9)/8
	}
	if dice.Intn(4) > 0 {
		s.Windows = s.Windows[:len(s.Windows)-1]
	}
	return s
}

// distort changes a few things of a module, which may then be no longer right.
func distort(dice *rand.Rand, m *book.Module) {
	o := random(dice)
	for range 1 + dice.Intn(3) {
		i, j := dice.Intn(len(m.Partitions)), dice.Intn(len(o.Partitions))
		p, q := &m.Partitions[i], o.Partitions[j]
		switch dice.Intn(14) {
		case 0:
			p.Name = q.Name
		case 1:
			p.Areas = append(p.Areas, q.Areas...)
		case 2:
			p.Tasks = q.Tasks
		case 3:
			p.Locks = q.Locks
		case 4:
			p.Semas = q.Semas
		case 5:
			p.Ports = q.Ports
		case 6:
			p.Health = q.Health
		case 7:
			p.Budget = q.Budget
		case 8:
			m.Schedules = append(m.Schedules, o.Schedules...)
		case 9:
			m.Channels = append(m.Channels, o.Channels...)
		case 10:
			m.Links = append(m.Links, o.Links...)
		case 11:
			m.Health = o.Health
		case 12:
			m.Mode = dice.Intn(10)
		case 13:
			m.Channels = m.Channels[:dice.Intn(len(m.Channels)+1)]
		}
	}
}

// P12.1: modules of all sorts, by the chapter's table.
func TestModules(t *testing.T) {
	dice := rand.New(rand.NewSource(121))
	seen := map[int]int{}
	for i := range 60000 {
		m := good()
		if i%2 == 0 {
			m = random(dice)
		}
		if i%4 > 0 {
			distort(dice, &m)
		}
		want := slowAll(m)
		has(t, "a random module", m, want...)
		if t.Failed() {
			t.Fatalf("%+v", m)
		}
		for _, f := range want {
			seen[f.Rule]++
		}
		if len(want) == 0 {
			seen[0]++
			consequences(t, m)
		}
	}
	for rule := range 17 {
		if seen[rule] < 300 {
			t.Errorf("rule %d only %d times", rule, seen[rule])
		}
	}
}

// consequences holds what P12.3 tells of a module without faults.
func consequences(t *testing.T, m book.Module) {
	t.Helper()
	for _, s := range m.Schedules {
		owned := make([]bool, s.Frame)
		for _, w := range s.Windows {
			if w.Partition >= len(m.Partitions) {
				t.Error("a window of nobody")
			}
			for i := range w.Length {
				if owned[w.From+i] {
					t.Error("two windows have a tick")
				}
				owned[w.From+i] = true
			}
		}
	}
	used := map[book.End]int{}
	for _, c := range m.Channels {
		for _, e := range append([]book.End{c.From}, c.To...) {
			if e == out {
				continue
			}
			if used[e]++; used[e] > 1 || len(m.Partitions[e.Partition].Ports) <= e.Port {
				t.Error("a port is in two channels, or does not exist")
			}
		}
	}
	for _, l := range m.Links {
		if l.Channel >= len(m.Channels) {
			t.Error("a link of no channel")
		}
	}
	if m.Mode >= len(m.Schedules) {
		t.Error("no schedule is in effect")
	}
	inTime(t, m)
}

// inTime holds each task that has a deadline to what layer 11 tells of it.
func inTime(t *testing.T, m book.Module) {
	t.Helper()
	for _, s := range m.Schedules {
		x := slowTable(s)
		for who, p := range m.Partitions {
			var l []meet.Task
			for _, own := range p.Tasks {
				if own.Capacity > 0 {
					l = append(l, meet.Task{Priority: own.Priority, Period: own.Period, Capacity: own.Capacity, Deadline: own.Deadline})
				}
			}
			if at, e := meet.Check(x, who, l); x.Total(who) > 0 && e != api.OK {
				t.Error("a task is late:", at, e)
			}
		}
	}
}
