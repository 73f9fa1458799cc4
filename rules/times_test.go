package rules_test

import (
	"testing"

	"monocoque/book"
	"monocoque/rules"
)

func window(partition, from, length int) book.Window {
	return book.Window{Partition: partition, From: from, Length: length}
}

// cruise changes a module such that its first schedule has these windows in a frame of so many ticks. Nothing of it
// has a deadline any more.
func cruise(frame int, l ...book.Window) func(m *book.Module) {
	return func(m *book.Module) {
		for i := range m.Partitions {
			for j := range m.Partitions[i].Tasks {
				m.Partitions[i].Tasks[j].Deadline = 0
			}
		}
		m.Schedules[0].Frame, m.Schedules[0].Windows = frame, l
	}
}

// Rule 4: tables that are not right, and windows of nobody.
func TestWindows(t *testing.T) {
	broken := []rules.Fault{fault(4, 0)}
	many := func(count int) []book.Window {
		var l []book.Window
		for i := range count {
			l = append(l, window(i%3, 2*i, 2))
		}
		return l
	}
	steps(t, []step{
		{"none", cruise(1), nil},
		{"all ticks", cruise(10, window(0, 0, 10)), nil},
		{"beyond the frame", cruise(10, window(0, 0, 11)), broken},
		{"its last tick is beyond the frame", cruise(10, window(0, 5, 6)), broken},
		{"behind the frame", cruise(10, window(0, 10, 1)), broken},
		{"far behind the frame", cruise(10, window(0, 1<<20, 1<<20)), broken},
		{"side by side", cruise(10, window(0, 2, 3), window(1, 5, 5)), nil},
		{"one over the other", cruise(10, window(0, 2, 3), window(1, 4, 2)), broken},
		{"of the same, one over the other", cruise(10, window(0, 2, 3), window(0, 4, 2)), broken},
		{"not in order", cruise(10, window(0, 5, 3), window(1, 0, 2)), broken},
		{"64 of them", cruise(128, many(64)...), nil},
		{"64 of them, and one of nobody", cruise(128, append(many(63), window(3, 126, 2))...), []rules.Fault{fault(4, 0, 63)}},
		{"of nobody", cruise(10, window(3, 0, 1)), []rules.Fault{fault(4, 0, 0)}},
		{"of nobody, several", cruise(10, window(15, 0, 1), window(2, 1, 1), window(3, 2, 1)), []rules.Fault{fault(4, 0, 0), fault(4, 0, 2)}},
		{"of nobody, in a table that is not right", cruise(10, window(15, 0, 1), window(3, 0, 1)), broken},
		{"in two schedules", func(m *book.Module) {
			cruise(10, window(0, 3, 1), window(0, 2, 1))(m)
			m.Schedules[1].Windows[0].Partition, m.Schedules[1].Windows[1].Partition = 3, 4
		}, []rules.Fault{fault(4, 0), fault(4, 1, 0), fault(4, 1, 1)}},
		{"of no partitions at all", func(m *book.Module) {
			m.Partitions, m.Channels, m.Links = nil, nil, nil
		}, []rules.Fault{fault(4, 0, 0), fault(4, 0, 1), fault(4, 0, 2), fault(4, 1, 0), fault(4, 1, 1)}},
	})
}

// Rule 5: the schedule that is in effect at first.
func TestMode(t *testing.T) {
	for schedules := range 3 {
		for mode := range 8 {
			m := good()
			m.Schedules, m.Mode = m.Schedules[:schedules], mode
			var want []rules.Fault
			if mode >= schedules {
				want = append(want, fault(5))
			}
			has(t, "a mode", m, want...)
		}
	}
}

// plain returns a module of one partition that has the first 2 of 4 ticks, with these tasks (priority, period,
// capacity, deadline) and locks with these ceilings.
func plain(tasks [][4]int, ceilings ...int) book.Module {
	m := book.Module{
		Name:       "m",
		Partitions: []book.Partition{{Name: "p"}},
		Schedules:  []book.Schedule{{Name: "s", Frame: 4, Windows: []book.Window{window(0, 0, 2)}}},
	}
	p := &m.Partitions[0]
	for i, x := range tasks {
		p.Tasks = append(p.Tasks, book.Task{Name: "t" + string(rune('a'+i)), Priority: x[0], Period: x[1], Capacity: x[2], Deadline: x[3]})
	}
	for i, n := range ceilings {
		p.Locks = append(p.Locks, book.Lock{Name: "l" + string(rune('a'+i)), Ceiling: n})
	}
	return m
}

// Rule 16: the responses of tasks, as those of layer 11. Of 2 of 4 ticks, work of 1 needs 3, of 2 4, of 3 7, of 4 8.
func TestDeadlines(t *testing.T) {
	late := func(k ...int) []rules.Fault {
		var l []rules.Fault
		for _, i := range k {
			l = append(l, fault(16, 0, 0, i))
		}
		return l
	}
	for _, x := range []struct {
		what     string
		tasks    [][4]int
		ceilings []int
		want     []rules.Fault
	}{
		{"alone", [][4]int{{5, 0, 1, 3}}, nil, nil},
		{"alone, and late", [][4]int{{5, 0, 1, 2}}, nil, late(0)},
		{"without a deadline", [][4]int{{5, 1, 1, 0}}, nil, nil},
		{"two", [][4]int{{2, 8, 1, 3}, {1, 8, 2, 7}}, nil, nil},
		{"two, the second one is late", [][4]int{{2, 8, 1, 3}, {1, 8, 2, 6}}, nil, late(1)},
		{"two, the first one is late", [][4]int{{1, 8, 2, 6}, {2, 8, 1, 3}}, nil, late(0)},
		{"two, both are late", [][4]int{{2, 8, 1, 2}, {1, 8, 2, 6}}, nil, late(0, 1)},
		{"equal ones", [][4]int{{2, 8, 1, 4}, {2, 8, 1, 3}}, nil, late(1)},
		{"one without a deadline is ahead", [][4]int{{5, 8, 1, 4}, {6, 8, 2, 0}}, nil, late(0)},
		{"one without a capacity is less urgent", [][4]int{{4, 0, 0, 0}, {5, 8, 1, 3}, {3, 8, 0, 0}}, nil, nil},
		{"one without a capacity is listed ahead of late ones", [][4]int{{4, 0, 0, 0}, {5, 8, 1, 3}, {5, 8, 1, 3}}, nil, late(1, 2)},
		{"one without a period is less urgent", [][4]int{{5, 8, 1, 3}, {4, 0, 9, 0}}, nil, nil},
		// A lock of that ceiling or a higher one lets a less urgent task delay it.
		{"a lower ceiling", [][4]int{{5, 8, 1, 3}, {4, 8, 1, 0}}, []int{4}, nil},
		{"its own ceiling", [][4]int{{5, 8, 1, 3}, {4, 8, 1, 0}}, []int{5}, late(0)},
		{"a higher ceiling", [][4]int{{5, 8, 1, 3}, {4, 8, 1, 0}}, []int{63}, late(0)},
		{"one of several ceilings", [][4]int{{5, 8, 1, 3}, {4, 8, 1, 0}}, []int{1, 5, 2}, late(0)},
		{"it is delayed, but not late", [][4]int{{5, 8, 1, 4}, {4, 8, 1, 0}}, []int{5}, nil},
		{"the greatest capacity", [][4]int{{5, 8, 1, 7}, {4, 8, 1, 0}, {1, 9, 2, 0}, {2, 9, 1, 0}}, []int{5}, nil},
		{"the greatest capacity is too great", [][4]int{{5, 8, 1, 7}, {4, 8, 1, 0}, {1, 9, 3, 0}, {2, 9, 1, 0}}, []int{5}, late(0)},
		{"equal ones are not less urgent", [][4]int{{5, 8, 1, 4}, {5, 8, 1, 0}}, []int{5}, nil},
		{"more urgent ones neither", [][4]int{{5, 8, 1, 4}, {6, 8, 1, 0}}, []int{9}, nil},
		{"nobody is less urgent", [][4]int{{5, 8, 1, 3}}, []int{63}, nil},
		{"a less urgent one without a capacity", [][4]int{{5, 8, 1, 8}, {4, 8, 0, 0}}, []int{5}, late(0)},
		{"a less urgent one without a capacity, and a lower ceiling", [][4]int{{5, 8, 1, 8}, {4, 8, 0, 0}}, []int{4}, nil},
		{"a less urgent one without a capacity, and no lock", [][4]int{{5, 8, 1, 8}, {4, 8, 0, 0}}, nil, nil},
		{"the ceiling is for one of two", [][4]int{{5, 8, 1, 3}, {4, 8, 1, 4}, {3, 8, 1, 0}}, []int{4}, late(1)},
		{"the ceiling is for one of two, in time", [][4]int{{5, 8, 1, 3}, {4, 8, 1, 7}, {3, 8, 1, 0}}, []int{4}, nil},
		{"another one's delay does not count", [][4]int{{4, 8, 1, 4}, {5, 8, 1, 4}}, []int{5}, nil},
	} {
		has(t, x.what, plain(x.tasks, x.ceilings...), x.want...)
	}
}

// Rule 16: in each schedule, and only for partitions that have a window in it.
func TestDeadlinesBySchedules(t *testing.T) {
	m := good()
	m.Schedules = append(m.Schedules,
		book.Schedule{Name: "short", Frame: 20, Windows: []book.Window{window(0, 0, 1), window(1, 1, 1)}},
		book.Schedule{Name: "none", Frame: 20},
		book.Schedule{Name: "first", Frame: 20, Windows: []book.Window{window(1, 0, 1), window(2, 1, 1)}},
	)
	has(t, "short windows", m, fault(16, 2, 0, 0), fault(16, 2, 0, 1), fault(16, 2, 1, 0), fault(16, 4, 1, 0))
	m.Partitions[1].Tasks[0].Deadline = 0
	has(t, "short windows, fewer deadlines", m, fault(16, 2, 0, 0), fault(16, 2, 0, 1))
	m.Partitions[0].Tasks[1].Deadline = 0
	has(t, "short windows, one deadline", m, fault(16, 2, 0, 0))
	m.Partitions[0].Locks[0].Ceiling = 9
	has(t, "a lock, and a less urgent task without a capacity", m, fault(16, 0, 0, 0), fault(16, 2, 0, 0))
}

// Rule 16: a module of as many things as there may be is answered soon.
func TestDeadlinesOfManyTasks(t *testing.T) {
	m := book.Module{Name: "m"}
	for i := range book.MaxParts {
		p := book.Partition{Name: "p" + string(rune('a'+i))}
		for k := range book.MaxKind {
			p.Tasks = append(p.Tasks, book.Task{
				Name: "t" + string(rune('a'+k)), Priority: 1 + k, Period: book.MaxFrame, Capacity: 1 + 97*k, Deadline: book.MaxFrame - k,
			})
		}
		p.Locks = []book.Lock{{Name: "l", Ceiling: 63}}
		m.Partitions = append(m.Partitions, p)
	}
	for i := range book.MaxSchedules {
		s := book.Schedule{Name: "s" + string(rune('a'+i)), Frame: book.MaxFrame >> i}
		part := s.Frame / book.MaxWindows
		for k := range book.MaxWindows {
			s.Windows = append(s.Windows, window(k*(k+i)%book.MaxParts, k*part, part-k))
		}
		m.Schedules = append(m.Schedules, s)
	}
	for _, f := range rules.All(m) {
		if f.Rule != 16 {
			t.Fatal(rules.Line(f))
		}
	}
}
