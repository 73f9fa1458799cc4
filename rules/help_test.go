package rules_test

import (
	"slices"
	"testing"

	"monocoque/book"
	"monocoque/rules"
)

const outside = book.Outside

// good returns a module that has all kinds of things and violates no rule.
func good() book.Module {
	return book.Module{
		Name:       "plane",
		Partitions: []book.Partition{left(), right(), {Name: "idle"}},
		Schedules: []book.Schedule{
			{Name: "cruise", Frame: 20, Windows: []book.Window{{Partition: 0, From: 0, Length: 8}, {Partition: 1, From: 8, Length: 4}, {Partition: 0, From: 13, Length: 7}}},
			{Name: "land", Frame: 10, Windows: []book.Window{{Partition: 1, From: 2, Length: 3}, {Partition: 2, From: 6, Length: 4}}},
		},
		Mode: 1,
		Channels: []book.Channel{
			{From: book.End{Partition: 0, Port: 0}, To: []book.End{{Partition: 1, Port: 0}, {Partition: outside}, {Partition: 0, Port: 3}}},
			{From: book.End{Partition: 0, Port: 1}, To: []book.End{{Partition: 1, Port: 1}}},
			{From: book.End{Partition: outside}, To: []book.End{{Partition: 0, Port: 2}}},
		},
		Links:  []book.Link{{Name: "down", Channel: 2, Gap: 9}, {Name: "up", Channel: 0, Gap: 7}},
		Health: []book.Rule{{Error: 17, Level: book.LevelWhole, Do: book.Tell}, {Error: 5, Level: book.LevelWhole}},
	}
}

func left() book.Partition {
	return book.Partition{
		Name: "left",
		Areas: []book.Area{
			{Name: "code", From: 0, Words: 64, Run: true},
			{Name: "data", From: 128, Words: 32, Write: true, Keep: true},
			{Name: "stack", From: 64, Words: 64, Write: true},
		},
		Tasks: []book.Task{
			{Name: "fast", Entry: 1, Stack: 16, Priority: 9, Period: 40, Capacity: 2, Deadline: 20, Offset: 3},
			{Name: "slow", Entry: 7, Stack: 20, Priority: 4, Period: 80, Capacity: 5, Deadline: 60, Offset: 6},
			{Name: "rest", Priority: 3},
		},
		Locks:   []book.Lock{{Name: "l1", Ceiling: 3}},
		Semas:   []book.Sema{{Name: "s1", First: 1, Most: 2, ByPriority: true}, {Name: "s2", First: 4, Most: 4}},
		Events:  []book.Event{{Name: "e1"}, {Name: "e2"}},
		Boards:  []book.Board{{Name: "b1", Words: 5}, {Name: "b2", Words: 6}},
		Buffers: []book.Buffer{{Name: "f1", Words: 7, Room: 8, ByPriority: true}, {Name: "f2", Words: 9, Room: 10}},
		Ports: []book.Port{
			{Name: "p0", Out: true, Words: 11, Refresh: 12},
			{Name: "p1", Out: true, Queue: true, Words: 13, Room: 14},
			{Name: "p2", Queue: true, Words: 5, Room: 1},
			{Name: "p3", Words: 11},
			{Name: "p4", Words: 3},
			{Name: "p5", Out: true, Queue: true, Words: 13, Room: 14},
		},
		Health:   []book.Rule{{Error: 14, Level: book.LevelProcess, Do: book.RestartProcess}, {Error: 14, Level: book.LevelPart, Do: book.ColdStart}},
		Restarts: 3,
		Budget:   book.Budget{Size: 4, Period: 15},
	}
}

func right() book.Partition {
	return book.Partition{
		Name:  "right",
		Tasks: []book.Task{{Name: "fast", Priority: 63, Period: 40, Capacity: 3, Deadline: 40}, {Name: "slow", Priority: 1, Capacity: 1}},
		Locks: []book.Lock{{Name: "l1", Ceiling: 63}},
		Ports: []book.Port{
			{Name: "p0", Words: 11, Refresh: 1 << 20},
			{Name: "p1", Queue: true, Words: 13, Room: 32},
			{Name: "p2", Out: true, Words: 11},
		},
	}
}

// fault returns a fault.
func fault(rule int, at ...int) rules.Fault { return rules.Fault{Rule: rule, At: at} }

func same(a, b rules.Fault) bool { return a.Rule == b.Rule && slices.Equal(a.At, b.At) }

// has holds the faults of a module.
func has(t *testing.T, what string, m book.Module, want ...rules.Fault) {
	t.Helper()
	got := rules.All(m)
	if !slices.EqualFunc(got, want, same) {
		t.Errorf("%s: All returns %v, want %v", what, got, want)
	}
	var first rules.Fault
	if len(want) > 0 {
		first = want[0]
	}
	if f := rules.Check(m); !same(f, first) {
		t.Errorf("%s: Check returns %v, want %v", what, f, first)
	}
}

// A step is a change of a module, and the faults that it then has.
type step struct {
	what   string
	change func(m *book.Module)
	faults []rules.Fault
}

// steps holds the faults of good modules, each of which is changed in another way.
func steps(t *testing.T, list []step) {
	t.Helper()
	for _, s := range list {
		m := good()
		s.change(&m)
		has(t, s.what, m, s.faults...)
	}
}
