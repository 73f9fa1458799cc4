package rules

import (
	"slices"

	"monocoque/api"
	"monocoque/book"
	"monocoque/frame"
	"monocoque/meet"
)

// tableOf returns the table of a schedule.
func tableOf(s book.Schedule) frame.Table {
	t := frame.Table{Frame: s.Frame}
	for _, w := range s.Windows {
		t.Windows = append(t.Windows, frame.Window{Who: w.Partition, From: w.From, Length: w.Length})
	}
	return t
}

func windows(m book.Module, broken tell) {
schedules:
	for i, s := range m.Schedules {
		if tableOf(s).Check() != api.OK {
			broken(i)
			continue schedules
		}
		for j, w := range s.Windows {
			if w.Partition >= len(m.Partitions) {
				broken(i, j)
			}
		}
	}
}

func mode(m book.Module, broken tell) {
	if m.Mode >= len(m.Schedules) {
		broken()
	}
}

// deadlines tells of tasks that may be late, in modules that violate no other rule.
func deadlines(m book.Module, broken tell) {
	for i, s := range m.Schedules {
		t := tableOf(s)
	partitions:
		for who, p := range m.Partitions {
			if len(t.Of(who)) == 0 {
				continue partitions
			}
			for k, own := range p.Tasks {
				if own.Deadline > 0 && late(t, who, p, k) {
					broken(i, who, k)
				}
			}
		}
	}
}

// late reports whether the task k of a partition may be late.
func late(t frame.Table, who int, p book.Partition, k int) bool {
	block, bounded := blockOf(p, p.Tasks[k])
	if !bounded {
		return true
	}
	var list []meet.Task
	at := 0
tasks:
	for i, x := range p.Tasks {
		if x.Capacity == 0 {
			continue tasks
		}
		y := meet.Task{Priority: x.Priority, Period: x.Period, Capacity: x.Capacity, Deadline: x.Deadline}
		if i == k {
			at, y.Block = len(list), block
		}
		list = append(list, y)
	}
	_, e := meet.Response(t, who, list, at)
	return e != api.OK
}

// blockOf returns for how many ticks less urgent tasks may delay a release of a task, or false if nothing bounds them.
func blockOf(p book.Partition, own book.Task) (int, bool) {
	shared := func(l book.Lock) bool { return l.Ceiling >= own.Priority }
	if !slices.ContainsFunc(p.Locks, shared) {
		return 0, true
	}
	block := 0
	for _, x := range p.Tasks {
		if x.Priority >= own.Priority {
			continue
		}
		if x.Capacity == 0 {
			return 0, false
		}
		block = max(block, x.Capacity)
	}
	return block, true
}
