package rules

import (
	"slices"

	"monocoque/book"
)

// names tells of the names of the module's things, then of those of each partition's.
func names(m book.Module, broken tell) {
	for kind, word := range [...]string{"partition", "schedule", "link"} {
		repeated(m.Names(word), under(broken, ofModule, kind))
	}
	for i, p := range m.Partitions {
		for kind, word := range [...]string{"area", "task", "lock", "sema", "event", "board", "buffer", "port"} {
			repeated(p.Names(word), under(broken, i, kind))
		}
	}
}

// repeated tells of the names that occur earlier in the list.
func repeated(list []string, broken tell) {
	seen := map[string]bool{}
	for i, s := range list {
		if seen[s] {
			broken(i)
		}
		seen[s] = true
	}
}

func areas(p book.Partition, broken tell) {
	total := 0
areas:
	for i, a := range p.Areas {
		total += a.Words
		if total > book.MaxSpace {
			broken(i)
			continue areas
		}
		for _, earlier := range p.Areas[:i] {
			if common(a, earlier) {
				broken(i)
				continue areas
			}
		}
	}
}

// common reports whether some word is in both areas.
func common(a, b book.Area) bool {
	return a.From < b.From+b.Words && b.From < a.From+a.Words
}

func tasks(p book.Partition, broken tell) {
	for i, t := range p.Tasks {
		if t.Deadline > 0 && !possible(t) || endless(t) && delays(p, i) {
			broken(i)
		}
	}
}

// possible reports whether a task can meet the deadline that it has, and has to do so before its next release.
func possible(t book.Task) bool {
	return t.Capacity > 0 && t.Capacity <= t.Deadline && (t.Period == 0 || t.Deadline <= t.Period)
}

// endless reports whether nothing bounds the ticks that a task uses.
func endless(t book.Task) bool { return t.Period == 0 || t.Capacity == 0 }

// delays reports whether another task that has a deadline may wait for the task i.
func delays(p book.Partition, i int) bool {
	for j, t := range p.Tasks {
		if j != i && t.Deadline > 0 && t.Priority <= p.Tasks[i].Priority {
			return true
		}
	}
	return false
}

func semas(p book.Partition, broken tell) {
	for i, s := range p.Semas {
		if s.First > s.Most {
			broken(i)
		}
	}
}

func ports(p book.Partition, broken tell) {
	for i, q := range p.Ports {
		if q.Queue && (q.Room == 0 || q.Refresh != 0) || !q.Queue && q.Room != 0 {
			broken(i)
		}
	}
}

// health tells of the rules of each partition, then of those of the module.
func health(m book.Module, broken tell) {
	ofPart := func(a, b book.Rule) bool { return a.Error == b.Error && a.Level == b.Level }
	for i, p := range m.Partitions {
		handled(p.Health, partDoes, ofPart, under(broken, i))
	}
	ofWhole := func(a, b book.Rule) bool { return a.Error == b.Error }
	handled(m.Health, wholeDoes, ofWhole, under(broken, ofModule))
}

// handled tells of health rules that are not possible, and of those for what an earlier one is for.
func handled(list []book.Rule, possible func(r book.Rule) bool, alike func(a, b book.Rule) bool, broken tell) {
	for i, r := range list {
		again := slices.ContainsFunc(list[:i], func(earlier book.Rule) bool { return alike(earlier, r) })
		if again || !possible(r) {
			broken(i)
		}
	}
}

// partDoes reports whether a partition can have the rule r.
func partDoes(r book.Rule) bool {
	switch r.Level {
	case book.LevelProcess:
		return r.Do <= book.RestartProcess
	case book.LevelPart:
		return r.Do <= book.Tell || r.Do >= book.WarmStart
	}
	return false
}

// wholeDoes reports whether the module can have the rule r.
func wholeDoes(r book.Rule) bool { return r.Level == book.LevelWhole && r.Do <= book.Tell }

func budget(p book.Partition, broken tell) {
	b := p.Budget
	if b.Size > b.Period || (b.Size == 0) != (b.Period == 0) {
		broken()
	}
}
