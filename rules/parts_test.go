package rules_test

import (
	"testing"

	"monocoque/book"
	"monocoque/rules"
)

// Rule 2: each kind of things.
func TestNames(t *testing.T) {
	steps(t, []step{
		{"partitions", func(m *book.Module) { m.Partitions[1].Name = "left" }, []rules.Fault{fault(2, -1, 0, 1)}},
		{"schedules", func(m *book.Module) { m.Schedules[1].Name = "cruise" }, []rules.Fault{fault(2, -1, 1, 1)}},
		{"links", func(m *book.Module) { m.Links[1].Name = "down" }, []rules.Fault{fault(2, -1, 2, 1)}},
		{"areas", func(m *book.Module) { m.Partitions[0].Areas[2].Name = "data" }, []rules.Fault{fault(2, 0, 0, 2)}},
		{"tasks", func(m *book.Module) { m.Partitions[1].Tasks[1].Name = "fast" }, []rules.Fault{fault(2, 1, 1, 1)}},
		{"locks", func(m *book.Module) {
			m.Partitions[1].Locks = append(m.Partitions[1].Locks, m.Partitions[1].Locks[0])
		}, []rules.Fault{fault(2, 1, 2, 1)}},
		{"semas", func(m *book.Module) { m.Partitions[0].Semas[1].Name = "s1" }, []rules.Fault{fault(2, 0, 3, 1)}},
		{"events", func(m *book.Module) { m.Partitions[0].Events[1].Name = "e1" }, []rules.Fault{fault(2, 0, 4, 1)}},
		{"boards", func(m *book.Module) { m.Partitions[0].Boards[1].Name = "b1" }, []rules.Fault{fault(2, 0, 5, 1)}},
		{"buffers", func(m *book.Module) { m.Partitions[0].Buffers[1].Name = "f1" }, []rules.Fault{fault(2, 0, 6, 1)}},
		{"ports", func(m *book.Module) { m.Partitions[0].Ports[5].Name = "p0" }, []rules.Fault{fault(2, 0, 7, 5)}},
	})
}

// Rule 2: several of them, and names that are no longer the same.
func TestNamesInOrder(t *testing.T) {
	steps(t, []step{
		{"of three, two are later", func(m *book.Module) {
			m.Partitions[1].Name, m.Partitions[2].Name = "left", "left"
		}, []rules.Fault{fault(2, -1, 0, 1), fault(2, -1, 0, 2)}},
		{"two pairs", func(m *book.Module) {
			for i, s := range []string{"a", "b", "b", "a", "c", "b"} {
				m.Partitions[0].Ports[i].Name = s
			}
		}, []rules.Fault{fault(2, 0, 7, 2), fault(2, 0, 7, 3), fault(2, 0, 7, 5)}},
		{"the module's first, then each partition's, kind by kind", func(m *book.Module) {
			m.Partitions[1].Ports[1].Name = "p0"
			m.Partitions[1].Tasks[1].Name = "fast"
			m.Partitions[0].Events[1].Name = "e1"
			m.Partitions[0].Semas[1].Name = "s1"
			m.Links[1].Name = "down"
			m.Schedules[1].Name = "cruise"
			m.Partitions[2].Name = "right"
		}, []rules.Fault{
			fault(2, -1, 0, 2), fault(2, -1, 1, 1), fault(2, -1, 2, 1),
			fault(2, 0, 3, 1), fault(2, 0, 4, 1), fault(2, 1, 1, 1), fault(2, 1, 7, 1),
		}},
		{"of other kinds, and in other partitions", func(m *book.Module) {
			m.Partitions[0].Name, m.Schedules[0].Name, m.Links[0].Name, m.Name = "a", "a", "a", "a"
			for i := range 2 {
				m.Partitions[i].Tasks[0].Name, m.Partitions[i].Locks[0].Name, m.Partitions[i].Ports[0].Name = "a", "a", "a"
			}
		}, nil},
	})
}

// Rule 3: words that two areas have, and too many of them.
func TestAreas(t *testing.T) {
	area := func(name string, from, words int) book.Area { return book.Area{Name: name, From: from, Words: words} }
	areas := func(l ...book.Area) func(m *book.Module) {
		return func(m *book.Module) { m.Partitions[1].Areas = l }
	}
	steps(t, []step{
		{"all words", areas(area("a", 0, 4096)), nil},
		{"all words, beyond 4096", areas(area("a", 4095, 4096)), nil},
		{"side by side", areas(area("a", 10, 5), area("b", 15, 1), area("c", 9, 1)), nil},
		{"the last word of an area", areas(area("a", 10, 5), area("b", 14, 9)), []rules.Fault{fault(3, 1, 1)}},
		{"the first word of an area", areas(area("a", 10, 5), area("b", 3, 8)), []rules.Fault{fault(3, 1, 1)}},
		{"within an area", areas(area("a", 10, 5), area("b", 12, 1)), []rules.Fault{fault(3, 1, 1)}},
		{"around an area", areas(area("a", 10, 5), area("b", 9, 7)), []rules.Fault{fault(3, 1, 1)}},
		{"the same", areas(area("a", 10, 5), area("b", 10, 5)), []rules.Fault{fault(3, 1, 1)}},
		{"not the nearest one", areas(area("a", 10, 5), area("b", 20, 5), area("c", 14, 2)), []rules.Fault{fault(3, 1, 2)}},
		{"one with two", areas(area("a", 10, 5), area("b", 20, 5), area("c", 14, 8)), []rules.Fault{fault(3, 1, 2)}},
		{"an area that has a fault counts", areas(area("a", 10, 5), area("b", 14, 9), area("c", 22, 1)), []rules.Fault{fault(3, 1, 1), fault(3, 1, 2)}},
		{"4096 words of two", areas(area("a", 0, 4000), area("b", 4000, 96)), nil},
		{"4097 words of two", areas(area("a", 0, 4000), area("b", 4000, 97)), []rules.Fault{fault(3, 1, 1)}},
		{"4097 words of three", areas(area("a", 0, 1), area("b", 1, 4094), area("c", 4095, 2)), []rules.Fault{fault(3, 1, 2)}},
		{"each area after the words are used up", areas(area("a", 7, 4096), area("b", 0, 1), area("c", 1, 1)), []rules.Fault{fault(3, 1, 1), fault(3, 1, 2)}},
		{"words that two areas have count for each", areas(area("a", 0, 3000), area("b", 0, 1000), area("c", 3000, 97)), []rules.Fault{fault(3, 1, 1), fault(3, 1, 2)}},
		{"of two partitions", func(m *book.Module) {
			m.Partitions[1].Areas = []book.Area{area("a", 0, 4000)}
			m.Partitions[2].Areas = []book.Area{area("a", 0, 4000), area("b", 3999, 1)}
			m.Partitions[0].Areas[1].From = 0
		}, []rules.Fault{fault(3, 0, 1), fault(3, 2, 1)}},
	})
}

// one changes the only task of a partition that has no windows.
func one(priority, period, capacity, deadline int) func(m *book.Module) {
	return func(m *book.Module) {
		m.Schedules[1].Windows = m.Schedules[1].Windows[:1]
		m.Partitions[2].Tasks = []book.Task{{Name: "one", Priority: priority, Period: period, Capacity: capacity, Deadline: deadline}}
	}
}

// Rule 6: the numbers of a task.
func TestTasks(t *testing.T) {
	broken := []rules.Fault{fault(6, 2, 0)}
	steps(t, []step{
		{"nothing", one(1, 0, 0, 0), nil},
		{"no deadline", one(1, 5, 9, 0), nil},
		{"no capacity", one(1, 5, 0, 0), nil},
		{"the deadline is the period", one(1, 5, 1, 5), nil},
		{"the deadline is beyond the period", one(1, 5, 1, 6), broken},
		{"the deadline without a period", one(1, 0, 1, 6), nil},
		{"the capacity is the deadline", one(1, 5, 4, 4), nil},
		{"the capacity is beyond the deadline", one(1, 5, 5, 4), broken},
		{"a deadline without a capacity", one(1, 5, 0, 4), broken},
		{"a deadline without both", one(1, 0, 0, 4), broken},
		{"greatest numbers", one(63, 1<<20, 1<<20, 1<<20), nil},
		{"both", one(1, 5, 9, 8), broken},
	})
}

// Rule 6: tasks of other tasks' priority or a higher one.
func TestTasksOfOthers(t *testing.T) {
	list := func(l ...[4]int) func(m *book.Module) {
		return func(m *book.Module) {
			one(1, 0, 0, 0)(m)
			m.Partitions[2].Tasks = nil
			for i, x := range l {
				m.Partitions[2].Tasks = append(m.Partitions[2].Tasks, book.Task{
					Name: "t" + string(rune('a'+i)), Priority: x[0], Period: x[1], Capacity: x[2], Deadline: x[3],
				})
			}
		}
	}
	due, mild := [4]int{5, 20, 2, 10}, [4]int{5, 20, 2, 0}
	steps(t, []step{
		{"a higher one without a period", list(due, [4]int{6, 0, 2, 0}), []rules.Fault{fault(6, 2, 1)}},
		{"a higher one without a capacity", list(due, [4]int{6, 20, 0, 0}), []rules.Fault{fault(6, 2, 1)}},
		{"a higher one without both, ahead", list([4]int{6, 0, 0, 0}, due), []rules.Fault{fault(6, 2, 0)}},
		{"a higher one with both", list(due, [4]int{6, 20, 2, 0}), nil},
		{"an equal one without a period", list(due, [4]int{5, 0, 2, 0}), []rules.Fault{fault(6, 2, 1)}},
		{"an equal one without a capacity", list(due, [4]int{5, 20, 0, 0}), []rules.Fault{fault(6, 2, 1)}},
		{"a lower one without both", list(due, [4]int{4, 0, 0, 0}), nil},
		{"a higher one without both, nobody has a deadline", list(mild, [4]int{6, 0, 0, 0}), nil},
		{"its own deadline does not count", list([4]int{5, 0, 2, 10}, mild), nil},
		{"two that have deadlines and no period", list([4]int{5, 0, 2, 10}, [4]int{5, 0, 2, 10}), []rules.Fault{fault(6, 2, 0), fault(6, 2, 1)}},
		{"a deadline of its own, and another one's", list([4]int{6, 0, 0, 10}, due), []rules.Fault{fault(6, 2, 0)}},
		{"some of many", list(mild, [4]int{9, 0, 1, 0}, due, [4]int{4, 0, 1, 0}, [4]int{5, 1, 0, 0}), []rules.Fault{fault(6, 2, 1), fault(6, 2, 4)}},
	})
}

// Rule 7: a semaphore that begins with more than it may have.
func TestSemas(t *testing.T) {
	steps(t, []step{
		{"the most", func(m *book.Module) { m.Partitions[0].Semas[0].First = 2 }, nil},
		{"one more", func(m *book.Module) { m.Partitions[0].Semas[0].First = 3 }, []rules.Fault{fault(7, 0, 0)}},
		{"the greatest numbers", func(m *book.Module) { m.Partitions[0].Semas[1] = book.Sema{Name: "s", First: 65535, Most: 65535} }, nil},
		{"several", func(m *book.Module) {
			m.Partitions[0].Semas[0].First, m.Partitions[0].Semas[1].First = 65535, 5
			m.Partitions[2].Semas = []book.Sema{{Name: "s", Most: 1}, {Name: "u", First: 2, Most: 1}}
		}, []rules.Fault{fault(7, 0, 0), fault(7, 0, 1), fault(7, 2, 1)}},
	})
}

// Rule 8: what ports of both sorts have.
func TestPorts(t *testing.T) {
	port := func(queue bool, room, refresh int) func(m *book.Module) {
		return func(m *book.Module) {
			m.Partitions[2].Ports = []book.Port{{Name: "a", Words: 1}, {Name: "b", Queue: queue, Words: 1, Room: room, Refresh: refresh}}
		}
	}
	broken := []rules.Fault{fault(8, 2, 1)}
	steps(t, []step{
		{"a queuing one", port(true, 1, 0), nil},
		{"a queuing one without room", port(true, 0, 0), broken},
		{"a queuing one with a refresh", port(true, 1, 1), broken},
		{"a queuing one with a refresh and no room", port(true, 0, 1), broken},
		{"a sampling one", port(false, 0, 0), nil},
		{"a sampling one with a refresh", port(false, 0, 1), nil},
		{"a sampling one with room", port(false, 1, 0), broken},
		{"a sampling one with room and a refresh", port(false, 32, 9), broken},
		{"several", func(m *book.Module) {
			m.Partitions[1].Ports[0].Room = 1
			m.Partitions[0].Ports[5].Room = 0
			m.Partitions[0].Ports[2].Refresh = 4
		}, []rules.Fault{fault(8, 0, 2), fault(8, 0, 5), fault(8, 1, 0)}},
	})
}

// Rule 14: what each level may do.
func TestHealth(t *testing.T) {
	possible := map[[2]int]bool{
		{book.LevelProcess, book.Ignore}: true, {book.LevelProcess, book.Tell}: true,
		{book.LevelProcess, book.StopProcess}: true, {book.LevelProcess, book.RestartProcess}: true,
		{book.LevelPart, book.Ignore}: true, {book.LevelPart, book.Tell}: true, {book.LevelPart, book.WarmStart}: true,
		{book.LevelPart, book.ColdStart}: true, {book.LevelPart, book.Halt}: true,
	}
	for level := range 3 {
		for do := range 7 {
			rule := book.Rule{Error: 27, Level: level, Do: do}
			m := good()
			m.Partitions[0].Health = append(m.Partitions[0].Health, rule)
			var want []rules.Fault
			if !possible[[2]int{level, do}] {
				want = append(want, fault(14, 0, 2))
			}
			has(t, "a partition's", m, want...)
			m = good()
			m.Health = append(m.Health, rule)
			want = nil
			if level != book.LevelWhole || do != book.Ignore && do != book.Tell {
				want = append(want, fault(14, -1, 2))
			}
			has(t, "the module's", m, want...)
		}
	}
}

// Rule 14: an earlier rule for the same.
func TestHealthOfTheSame(t *testing.T) {
	rule := func(e, level, do int) book.Rule { return book.Rule{Error: e, Level: level, Do: do} }
	parts := func(l ...book.Rule) func(m *book.Module) {
		return func(m *book.Module) { m.Partitions[2].Health = l }
	}
	whole := func(l ...book.Rule) func(m *book.Module) {
		return func(m *book.Module) { m.Health = l }
	}
	steps(t, []step{
		{"the same", parts(rule(5, 0, 1), rule(5, 0, 1)), []rules.Fault{fault(14, 2, 1)}},
		{"another action", parts(rule(5, 1, 4), rule(5, 1, 5)), []rules.Fault{fault(14, 2, 1)}},
		{"another level", parts(rule(5, 0, 1), rule(5, 1, 1)), nil},
		{"another error", parts(rule(5, 0, 1), rule(6, 0, 1)), nil},
		{"an earlier one that has a fault", parts(rule(5, 0, 6), rule(5, 0, 1)), []rules.Fault{fault(14, 2, 0), fault(14, 2, 1)}},
		{"both faults are one", parts(rule(5, 0, 1), rule(5, 0, 6)), []rules.Fault{fault(14, 2, 1)}},
		{"three", parts(rule(5, 0, 1), rule(6, 0, 1), rule(5, 0, 2), rule(5, 0, 3)), []rules.Fault{fault(14, 2, 2), fault(14, 2, 3)}},
		{"two that are not possible", parts(rule(5, 2, 1), rule(5, 2, 1)), []rules.Fault{fault(14, 2, 0), fault(14, 2, 1)}},
		{"the module's", whole(rule(5, 2, 0), rule(6, 2, 0), rule(5, 2, 1)), []rules.Fault{fault(14, -1, 2)}},
		{"the module's, an earlier one of another level", whole(rule(5, 0, 0), rule(5, 2, 1)), []rules.Fault{fault(14, -1, 0), fault(14, -1, 1)}},
		{"of two partitions and the module", func(m *book.Module) {
			whole(rule(14, 2, 0), rule(17, 2, 0))(m)
			parts(rule(14, 0, 1), rule(14, 1, 4))(m)
		}, nil},
		{"the partitions' first", func(m *book.Module) {
			whole(rule(14, 1, 0))(m)
			parts(rule(14, 2, 1))(m)
			m.Partitions[0].Health[1].Do = book.StopProcess
		}, []rules.Fault{fault(14, 0, 1), fault(14, 2, 0), fault(14, -1, 0)}},
	})
}

// Rule 15: a budget's size and period.
func TestBudget(t *testing.T) {
	for _, x := range []struct {
		size, period int
		ok           bool
	}{
		{0, 0, true}, {1, 1, true}, {1, 2, true}, {5, 5, true}, {1 << 20, 1 << 20, true},
		{0, 1, false}, {1, 0, false}, {2, 1, false}, {6, 5, false}, {0, 1 << 20, false}, {1 << 20, 0, false},
	} {
		for i := range 3 {
			m := good()
			m.Partitions[i].Budget = book.Budget{Size: x.size, Period: x.period}
			var want []rules.Fault
			if !x.ok {
				want = append(want, fault(15, i))
			}
			has(t, "a budget", m, want...)
		}
	}
	steps(t, []step{{"two", func(m *book.Module) {
		m.Partitions[0].Budget.Period, m.Partitions[2].Budget.Size = 3, 1
	}, []rules.Fault{fault(15, 0), fault(15, 2)}}})
}
