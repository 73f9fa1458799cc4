package proc_test

import (
	"fmt"
	"math/rand"
	"slices"
	"testing"

	"monocoque/api"
	"monocoque/proc"
)

// one is a process by the definition.
type one struct {
	attr          proc.Attr
	what          string // dormant, ready, waiting, resting
	held, forever bool
	base, raised  int
	until         int
	begun, used   int
	missed        bool
}

// model is a table by the definition; it is called as a Table is.
type model []one

func newModel(l []proc.Attr) model {
	var m model
	for _, a := range l {
		m = append(m, one{attr: a, what: "dormant"})
	}
	return m
}

// call is a method with its numbers, and answer what it returns.
type call struct {
	name string
	i, n int
}

type answer struct {
	next int
	e    api.Errno
	list string
}

// answers calls a Table.
func (c call) answers(x *proc.Table) answer {
	if c.name == "Missed" {
		return answer{list: fmt.Sprint(x.Missed(c.n))}
	}
	if c.name == "Done" {
		next, e := x.Done(c.i, c.n)
		return answer{next: next, e: e}
	}
	for _, m := range methods() {
		if m.name == c.name {
			return answer{e: m.call(x, c.i, c.n)}
		}
	}
	panic(c.name)
}

// answers calls the model: there, in range, in a state.
func (m model) answers(c call) answer {
	if c.name == "Missed" {
		return answer{list: fmt.Sprint(m.missed(c.n))}
	}
	if c.i < 0 || c.i >= len(m) {
		return answer{e: api.ErrNone}
	}
	low, high := 0, last
	switch c.name {
	case "Stop", "Suspend", "Resume", "Wake":
		low = c.n
		high = c.n
	case "Wait":
		low = min(c.n, 0)
	case "SetPriority":
		low, high = 1, 63
	case "Raise":
		high = 63
	}
	if c.n < low || c.n > high {
		return answer{e: api.ErrRange}
	}
	return m[c.i].answers(c)
}

func (p *one) answers(c call) answer {
	started := p.what != "dormant"
	ready := p.what == "ready" && !p.held
	state := map[string]bool{
		"Start": !started, "Stop": started, "Suspend": started && !p.held, "Resume": p.held, "Wait": ready,
		"Wake": p.what == "waiting", "Done": ready, "Release": p.what == "resting" && p.until <= c.n,
		"Charge": p.what == "ready" || p.what == "waiting", "SetPriority": started, "Raise": started,
	}
	if !state[c.name] {
		return answer{e: api.ErrState}
	}
	switch c.name {
	case "Start":
		*p = one{attr: p.attr, what: "resting", base: p.attr.Priority, until: c.n + p.attr.Offset}
		if p.attr.Offset == 0 {
			p.what, p.begun = "ready", c.n
		}
	case "Stop":
		*p = one{attr: p.attr, what: "dormant"}
	case "Suspend":
		p.held = true
	case "Resume":
		p.held = false
	case "Wait":
		p.what, p.until, p.forever = "waiting", c.n, c.n < 0
	case "Wake":
		p.what = "ready"
	case "Release":
		p.what, p.begun, p.used, p.missed = "ready", p.until, 0, false
	case "Done":
		return answer{next: p.done(c.n)}
	case "SetPriority":
		p.base = c.n
	case "Raise":
		p.raised = c.n
	case "Charge":
		p.used = min(p.used+c.n, last)
		if p.attr.Capacity != 0 && p.used > p.attr.Capacity {
			return answer{e: api.ErrTime}
		}
	}
	return answer{}
}

func (p *one) done(now int) int {
	if p.attr.Period == 0 {
		*p = one{attr: p.attr, what: "dormant"}
		return -1
	}
	next := p.begun + p.attr.Period
	p.what, p.until = "resting", next
	if next <= now {
		p.what, p.begun, p.used, p.missed = "ready", next, 0, false
	}
	return next
}

func (m model) missed(now int) []int {
	l := []int{}
	for i := range m {
		p := &m[i]
		if p.attr.Deadline > 0 && (p.what == "ready" || p.what == "waiting") && p.begun <= now-p.attr.Deadline && !p.missed {
			p.missed = true
			l = append(l, i)
		}
	}
	return l
}

// told is what a Table tells of the process.
func (p one) told() string {
	state := map[string]int{"dormant": proc.Dormant, "ready": proc.Ready, "waiting": proc.Waiting, "resting": proc.Resting}[p.what]
	if p.held {
		state = proc.Stopped
	}
	at, timed := 0, false
	if p.what == "resting" || p.what == "waiting" && !p.forever {
		at, timed = p.until, true
	}
	left := p.attr.Capacity
	if p.what == "ready" || p.what == "waiting" {
		left = max(left-p.used, 0)
	}
	if p.attr.Capacity == 0 {
		left = -1
	}
	base, current := p.base, max(p.base, p.raised)
	if p.what == "dormant" {
		base, current = p.attr.Priority, p.attr.Priority
	}
	return fmt.Sprint(p.attr, state, at, timed, left, base, current)
}

// state is what Same looks at.
func (p one) state() string {
	s := fmt.Sprint(p.attr, p.what)
	if p.what != "dormant" {
		s += fmt.Sprint(p.held, p.base, p.raised)
	}
	if p.what == "resting" || p.what == "waiting" && !p.forever {
		s += fmt.Sprint(" until ", p.until)
	}
	if p.what == "ready" || p.what == "waiting" {
		s += fmt.Sprint(" release ", p.begun, p.used, p.missed)
	}
	return s
}

func (m model) state() string {
	s := ""
	for _, p := range m {
		s += p.state() + ";"
	}
	return s
}

// matches tells whether a Table tells what the model tells.
func (m model) matches(t *testing.T, x *proc.Table) {
	t.Helper()
	if x.Len() != len(m) {
		t.Errorf("Len() = %d, want %d", x.Len(), len(m))
	}
	for i, p := range m {
		at, timed := x.Until(i)
		got := fmt.Sprint(x.Attr(i), x.State(i), at, timed, x.Left(i), x.Base(i), x.Current(i))
		if want := p.told(); got != want {
			t.Errorf("process %d: %s, want %s", i, got, want)
		}
	}
}

var names = []string{"Start", "Start", "Stop", "Suspend", "Resume", "Resume", "Wait", "Wait", "Wake", "Wake", "Done", "Done",
	"Release", "Release", "Release", "Charge", "Charge", "SetPriority", "Raise", "Missed"}

// some returns a call with numbers that mostly may be, around now.
func some(dice *rand.Rand, processes, now int) call {
	c := call{names[dice.Intn(len(names))], dice.Intn(processes+1) - dice.Intn(2), now}
	switch c.name {
	case "Wait":
		c.n = now + dice.Intn(12) - 6
	case "Charge":
		c.n = dice.Intn(4) - dice.Intn(2)
	case "SetPriority", "Raise":
		c.n = dice.Intn(4)
		if dice.Intn(4) == 0 {
			c.n = 60 + dice.Intn(6)
		}
	}
	if dice.Intn(60) == 0 {
		c.n = wrongTicks[dice.Intn(len(wrongTicks))]
	}
	if dice.Intn(60) == 0 {
		c.n = last
	}
	if c.name == "Missed" {
		c.n = now
	}
	return c
}

// someAttrs returns up to four processes, whose times are short.
func someAttrs(dice *rand.Rand) []proc.Attr {
	var l []proc.Attr
	for range dice.Intn(5) {
		l = append(l, proc.Attr{
			Priority: 1 + dice.Intn(3), Period: dice.Intn(6), Capacity: dice.Intn(4), Deadline: dice.Intn(5), Offset: dice.Intn(2) * dice.Intn(4),
		})
	}
	return l
}

// P19.1 to P19.7: any calls in any order, against the definition.
func TestAgainstTheDefinition(t *testing.T) {
	dice := rand.New(rand.NewSource(19))
	for range 1500 {
		l := someAttrs(dice)
		x, m := table(t, l...), newModel(l)
		now := dice.Intn(5)
		for range 120 {
			c := some(dice, len(l), now)
			if got, want := c.answers(x), m.answers(c); got != want {
				t.Fatalf("%v = %v, want %v; %s", c, got, want, m.state())
			}
			m.matches(t, x)
			if t.Failed() {
				t.Fatalf("after %v", c)
			}
			now += dice.Intn(2)
			if dice.Intn(8) == 0 {
				x = x.Clone()
			}
		}
	}
}

// P19.1: Same of all tables that few calls make of one process, against the definition.
func TestSameAgainstTheDefinition(t *testing.T) {
	attrs := []proc.Attr{
		{Priority: 2, Period: 3, Capacity: 1, Deadline: 1}, {Priority: 2, Period: 3, Capacity: 1, Deadline: 1, Offset: 2},
		{Priority: 2, Period: 3, Capacity: 1}, {Priority: 2, Period: 3, Deadline: 1}, {Priority: 2, Capacity: 1, Deadline: 1}, {Priority: 3, Period: 3, Capacity: 1, Deadline: 1},
	}
	calls := []call{
		{"Start", 0, 0}, {"Start", 0, 2}, {"Stop", 0, 0}, {"Suspend", 0, 0}, {"Resume", 0, 0}, {"Wait", 0, -1}, {"Wait", 0, -7}, {"Wait", 0, 0}, {"Wait", 0, 3},
		{"Wake", 0, 0}, {"Done", 0, 1}, {"Done", 0, 3}, {"Release", 0, 5}, {"Charge", 0, 1}, {"Charge", 0, 0}, {"SetPriority", 0, 1}, {"SetPriority", 0, 2},
		{"Raise", 0, 1}, {"Raise", 0, 2}, {"Raise", 0, 0}, {"Missed", 0, 1}, {"Missed", 0, 4},
	}
	type pair struct {
		x *proc.Table
		m model
	}
	var reached []pair
	for _, a := range attrs {
		reached = append(reached, pair{table(t, a), newModel([]proc.Attr{a})})
	}
	before := 0
	for range 3 {
		upTo := len(reached)
		for _, p := range reached[before:upTo] {
			for _, c := range calls {
				n := pair{p.x.Clone(), slices.Clone(p.m)}
				if c.answers(n.x).e != n.m.answers(c).e {
					t.Fatal("another error of", c)
				}
				same := func(o pair) bool { return o.m.state() == n.m.state() }
				if i := slices.IndexFunc(reached, same); i >= 0 {
					if !reached[i].x.Same(n.x) || !n.x.Same(reached[i].x) {
						t.Fatal("not the same:", n.m.state())
					}
					continue
				}
				reached = append(reached, n)
			}
		}
		before = upTo
	}
	if len(reached) < 200 {
		t.Fatal("only", len(reached))
	}
	for i, a := range reached {
		for j, b := range reached {
			if a.x.Same(b.x) != (i == j) {
				t.Fatalf("Same of %s and %s: %v", a.m.state(), b.m.state(), i != j)
			}
		}
	}
}

// P19.1: Same looks at each process, and at their number.
func TestSameOfSeveral(t *testing.T) {
	l := []proc.Attr{{Priority: 1}, {Priority: 1}, {Priority: 1}}
	x, y := table(t, l...), table(t, l...)
	if x.Same(table(t, l[:2]...)) || table(t, l[:2]...).Same(x) || x.Same(table(t)) {
		t.Error("a process more")
	}
	for i := range l {
		ok(t, x.Start(i, 0))
		if x.Same(y) || y.Same(x) {
			t.Error("process", i, "is not looked at")
		}
		ok(t, y.Start(i, 0))
		if !x.Same(y) || !y.Same(x) {
			t.Error("process", i)
		}
	}
}
