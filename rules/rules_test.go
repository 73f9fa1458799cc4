package rules_test

import (
	"math"
	"strconv"
	"strings"
	"testing"

	"monocoque/book"
	"monocoque/rules"
)

// words are the chapter's, by the numbers of their rules.
var words = strings.Split("none right names areas windows mode tasks semas ports ends once alike links linked health budget deadlines", " ")

// The chapter's examples.
func TestExamples(t *testing.T) {
	m := book.Module{
		Name:       "m",
		Partitions: []book.Partition{{Name: "p"}, {Name: "p"}},
		Schedules:  []book.Schedule{{Name: "s", Frame: 4, Windows: []book.Window{{Partition: 2, Length: 1}}}},
	}
	l := rules.All(m)
	if len(l) != 2 || rules.Line(l[0]) != "names -1 0 1" || rules.Line(l[1]) != "windows 0 0" {
		t.Error(l)
	}
}

// P12.1: a module without faults has none.
func TestNoFaults(t *testing.T) {
	has(t, "a good module", good())
	has(t, "a module with a schedule", book.Module{Name: "m", Schedules: []book.Schedule{{Name: "s", Frame: 1}}})
	if f := rules.Check(good()); f.Rule != 0 || len(f.At) != 0 {
		t.Error(f)
	}
}

// P12.1: in a module that is not right no other rule is checked.
func TestNotRight(t *testing.T) {
	has(t, "the zero module", book.Module{}, fault(1))
	steps(t, []step{
		{"a name", func(m *book.Module) { m.Name = "Plane"; m.Links[1].Name = "down" }, []rules.Fault{fault(1)}},
		{"a mode", func(m *book.Module) { m.Mode = 8 }, []rules.Fault{fault(1)}},
		{"numbers far beyond", func(m *book.Module) {
			m.Mode = math.MinInt
			m.Channels[0].From = book.End{Partition: math.MaxInt, Port: math.MinInt}
			m.Links[0].Channel = -1
			m.Schedules[0].Windows[0] = book.Window{Partition: -1, From: math.MaxInt, Length: math.MaxInt}
			m.Partitions[0].Areas[0] = book.Area{From: math.MinInt, Words: math.MaxInt}
		}, []rules.Fault{fault(1)}},
		{"too many partitions", func(m *book.Module) { m.Partitions = make([]book.Partition, 17) }, []rules.Fault{fault(1)}},
	})
}

// P12.1: faults are told rule by rule, and deadlines only if there is no other one.
func TestOrderOfRules(t *testing.T) {
	m := good()
	var want []rules.Fault
	add := func(f ...rules.Fault) { want = append(want, f...) }
	m.Partitions[2].Name = "left"
	add(fault(2, -1, 0, 2))
	m.Partitions[0].Areas[2].From = 63
	add(fault(3, 0, 2))
	m.Schedules[1].Windows[1].Partition = 9
	add(fault(4, 1, 1))
	m.Mode = 7
	add(fault(5))
	m.Partitions[1].Tasks[0].Capacity = 41
	add(fault(6, 1, 0))
	m.Partitions[0].Semas[1].First = 5
	add(fault(7, 0, 1))
	m.Partitions[0].Ports[4].Room = 1
	add(fault(8, 0, 4))
	m.Channels[2].From.Port = 1
	add(fault(9, 2))
	m.Channels[0].To[2] = book.End{Partition: 0, Port: 0}
	add(fault(9, 0, 2))
	want[len(want)-1], want[len(want)-2] = want[len(want)-2], want[len(want)-1]
	add(fault(10, 0, 2))
	m.Channels[1].To[0] = book.End{Partition: 0, Port: 4}
	add(fault(11, 1, 0))
	m.Links[0].Channel = 1
	add(fault(12, 0))
	add(fault(13, 2))
	m.Health[1].Do = book.Halt
	add(fault(14, -1, 1))
	m.Partitions[1].Budget.Size = 1
	add(fault(15, 1))
	has(t, "all rules", m, want...)
	late := good()
	late.Schedules[0].Windows[0].Length = 1
	late.Partitions[0].Tasks[0].Deadline = 2
	has(t, "deadlines alone", late, fault(16, 0, 0, 0))
	late.Health[0].Do = book.Halt
	has(t, "deadlines and another rule", late, fault(14, -1, 0))
}

// P12.2: the words of all rules, and of no rule.
func TestWord(t *testing.T) {
	for rule := -5; rule < 40; rule++ {
		want := ""
		if rule > 0 && rule < len(words) {
			want = words[rule]
		}
		if s := rules.Word(rule); s != want {
			t.Errorf("Word(%d) = %q, want %q", rule, s, want)
		}
	}
	for _, rule := range []int{math.MinInt, math.MaxInt, 1 << 32, 1<<32 + 1, 255, 256, 257} {
		if s := rules.Word(rule); s != "" {
			t.Errorf("Word(%d) = %q", rule, s)
		}
	}
}

// P12.2: the lines of all rules, and of no rule, with numbers of all sorts.
func TestLine(t *testing.T) {
	numbers := map[string][]int{
		"": nil, " 0": {0}, " -1 0 12": {-1, 0, 12}, " 1048576 -30": {1048576, -30},
		" -9223372036854775808 9223372036854775807": {math.MinInt, math.MaxInt},
		" 1" + strings.Repeat(" 7", 300):            append([]int{1}, sevens(300)...),
	}
	for tail, at := range numbers {
		for rule := -5; rule < 40; rule++ {
			want := ""
			if rule == 0 {
				want = "none"
			} else if rule > 0 && rule < len(words) {
				want = words[rule] + tail
			}
			if s := rules.Line(rules.Fault{Rule: rule, At: at}); s != want {
				t.Errorf("Line of %d and %v = %q, want %q", rule, at, s, want)
			}
		}
		for _, rule := range []int{math.MinInt, math.MaxInt} {
			if s := rules.Line(rules.Fault{Rule: rule, At: at}); s != "" {
				t.Errorf("Line of %d = %q", rule, s)
			}
		}
	}
	if s := rules.Line(rules.Fault{At: []int{}}); s != "none" {
		t.Error(s)
	}
}

func sevens(n int) []int {
	l := make([]int, n)
	for i := range l {
		l[i] = 7
	}
	return l
}

// R4: asking changes nothing, and no two lists that are told share memory.
func TestNothingIsShared(t *testing.T) {
	m := good()
	for i := range m.Partitions {
		m.Partitions[i].Name = "p"
	}
	m.Links[1].Name = "down"
	m.Mode = 7
	was := m.Clone()
	want := []rules.Fault{fault(2, -1, 0, 1), fault(2, -1, 0, 2), fault(2, -1, 2, 1), fault(5)}
	for range 2 {
		l := rules.All(m)
		f := rules.Check(m)
		for i := range l {
			for j := range l[i].At[:cap(l[i].At)] {
				l[i].At[:cap(l[i].At)][j] = -100 - i
			}
		}
		for i := range l {
			for _, n := range l[i].At {
				if n != -100-i {
					t.Error("two faults share their numbers")
				}
			}
		}
		if !same(f, want[0]) {
			t.Error("a fault shares its numbers with others")
		}
		rules.Line(f)
		has(t, "asked before", m, want...)
	}
	if !book.Same(m, was) {
		t.Error("a module has changed")
	}
}

// P12.2: a fault's line stays a line of words and numbers.
func TestLineOfFaults(t *testing.T) {
	m := good()
	m.Partitions[1].Budget.Size = 3
	f := rules.Check(m)
	if s := rules.Line(f); s != "budget "+strconv.Itoa(1) {
		t.Error(s)
	}
}
