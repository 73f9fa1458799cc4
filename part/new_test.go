package part_test

import (
	"math"
	"slices"
	"testing"

	"monocoque/api"
	"monocoque/book"
	"monocoque/health"
	"monocoque/image"
	"monocoque/part"
	"monocoque/proc"
	"monocoque/space"
)

// whole returns a Config that has something of each kind.
func whole(t *testing.T) part.Config {
	t.Helper()
	c := world(t, forever, forever)
	c.Ceilings = []int{7, 9}
	c.Semas = []part.Sema{{First: 1, Most: 2}, {First: 0, Most: 1, ByPriority: true}}
	c.Events = 2
	c.Boards = []int{4, 5}
	c.Buffers = []part.Buffer{{Words: 3, Room: 2}, {Words: 4, Room: 1, ByPriority: true}}
	c.Ports = []part.Port{
		{Words: 4, Refresh: 10}, {Out: true, Words: 4, Refresh: 10}, {Queue: true, Words: 4, Room: 2}, {Out: true, Queue: true, Words: 4, Room: 2},
	}
	c.Rules = []health.Rule{{Error: api.ErrDivide, Level: book.LevelProcess, Do: book.Ignore}}
	c.Size, c.Period = 3, 10
	return c
}

// again returns a list of n times the same.
func again[T any](n int, x T) []T { return slices.Repeat([]T{x}, n) }

// wrong is what makes a Config one from which no partition is made, with which error.
type wrong struct {
	e     api.Errno
	spoil func(c *part.Config)
}

// wrongs are in the order in which the errors are promised; those of the same step are one group.
func wrongs() [][]wrong {
	return [][]wrong{
		{
			{api.ErrArg, func(c *part.Config) { c.Areas = again(17, space.Area{Words: 1}) }},
			{api.ErrRange, func(c *part.Config) { c.Areas[1].From = -1 }},
			{api.ErrRange, func(c *part.Config) { c.Areas[1].Words = 0 }},
			{api.ErrFull, func(c *part.Config) { c.Areas[4].From, c.Areas[4].Words = 10000, 4000 }},
			{api.ErrOver, func(c *part.Config) { c.Areas[1].From = 900 }},
		},
		{
			{api.ErrRange, func(c *part.Config) { c.Image.Sections = nil }},
			{api.ErrFull, func(c *part.Config) { c.Image.Sections = again(17, c.Image.Sections[0]) }},
			{api.ErrOrder, func(c *part.Config) { c.Image.Sections[1].At = 0 }},
			{api.ErrRange, func(c *part.Config) { c.Image.Entries[1] = 500 }},
			{api.ErrFull, func(c *part.Config) { c.Image.Entries = make([]int, 17) }},
		},
		{
			{api.ErrRange, func(c *part.Config) {
				c.Image.Sections = append(c.Image.Sections, image.Section{At: 60000, Words: []uint32{1}})
			}},
		},
		{
			{api.ErrFull, func(c *part.Config) { c.Tasks = again(17, c.Tasks[0]) }},
			{api.ErrRange, func(c *part.Config) { c.Tasks[1].Attr.Priority = 64 }},
			{api.ErrRange, func(c *part.Config) { c.Tasks[0].Attr.Period = -1 }},
		},
		{
			{api.ErrRange, func(c *part.Config) { c.Tasks[1].Entry = -1 }},
			{api.ErrRange, func(c *part.Config) { c.Tasks[0].Entry = 2 }},
			{api.ErrRange, func(c *part.Config) { c.Tasks[0].Entry = math.MaxInt }},
			{api.ErrRange, func(c *part.Config) { c.Tasks[1].Floor = -1 }},
			{api.ErrRange, func(c *part.Config) { c.Tasks[1].Floor = c.Tasks[1].Top + 1 }},
			{api.ErrRange, func(c *part.Config) { c.Tasks[1].Top = 65537 }},
			{api.ErrRange, func(c *part.Config) { c.Tasks[0].Top = math.MaxInt }},
			{api.ErrRange, func(c *part.Config) { c.Tasks[0].Floor = math.MinInt }},
		},
		{
			{api.ErrFull, func(c *part.Config) { c.Ceilings = again(17, 5) }},
			{api.ErrRange, func(c *part.Config) { c.Ceilings[1] = 0 }},
			{api.ErrRange, func(c *part.Config) { c.Ceilings[0] = 64 }},
		},
		{
			{api.ErrFull, func(c *part.Config) { c.Semas = again(17, c.Semas[0]) }},
			{api.ErrFull, func(c *part.Config) { c.Boards = again(17, 4) }},
			{api.ErrFull, func(c *part.Config) { c.Buffers = again(17, c.Buffers[0]) }},
			{api.ErrFull, func(c *part.Config) { c.Ports = again(17, c.Ports[0]) }},
		},
		{
			{api.ErrRange, func(c *part.Config) { c.Events = -1 }},
			{api.ErrRange, func(c *part.Config) { c.Events = math.MinInt }},
			{api.ErrFull, func(c *part.Config) { c.Events = 17 }},
			{api.ErrFull, func(c *part.Config) { c.Events = math.MaxInt }},
		},
		{
			{api.ErrRange, func(c *part.Config) { c.Semas[1].Most = 0 }},
			{api.ErrRange, func(c *part.Config) { c.Semas[0].First = 3 }},
			{api.ErrRange, func(c *part.Config) { c.Semas[0].Most = 65536 }},
		},
		{
			{api.ErrRange, func(c *part.Config) { c.Boards[1] = 0 }},
			{api.ErrRange, func(c *part.Config) { c.Boards[0] = 33 }},
		},
		{
			{api.ErrRange, func(c *part.Config) { c.Buffers[1].Words = 0 }},
			{api.ErrRange, func(c *part.Config) { c.Buffers[0].Room = 33 }},
		},
		{
			{api.ErrArg, func(c *part.Config) { c.Ports[0].Words = 33 }},
			{api.ErrArg, func(c *part.Config) { c.Ports[1].Refresh = -1 }},
			{api.ErrArg, func(c *part.Config) { c.Ports[1].Refresh = 1<<20 + 1 }},
			{api.ErrRange, func(c *part.Config) { c.Ports[2].Words = 0 }},
			{api.ErrRange, func(c *part.Config) { c.Ports[3].Room = 0 }},
			{api.ErrRange, func(c *part.Config) { c.Ports[3].Room = 33 }},
		},
		{
			{api.ErrFull, func(c *part.Config) { c.Rules = again(65, c.Rules[0]) }},
			{api.ErrRange, func(c *part.Config) { c.Rules[0].Error = 28 }},
			{api.ErrRange, func(c *part.Config) { c.Rules[0].Level = book.LevelWhole }},
			{api.ErrArg, func(c *part.Config) { c.Rules[0].Do = book.Halt }},
			{api.ErrTwice, func(c *part.Config) { c.Rules = again(2, c.Rules[0]) }},
		},
		{
			{api.ErrArg, func(c *part.Config) { c.Restarts = -1 }},
			{api.ErrArg, func(c *part.Config) { c.Restarts = 1001 }},
		},
		{
			{api.ErrRange, func(c *part.Config) { c.Size = -1 }},
			{api.ErrRange, func(c *part.Config) { c.Size = 11 }},
			{api.ErrRange, func(c *part.Config) { c.Period = 0 }},
			{api.ErrRange, func(c *part.Config) { c.Period = 1<<20 + 1 }},
		},
	}
}

func fails(t *testing.T, c part.Config, want api.Errno) {
	t.Helper()
	if p, e := part.New(c); p != nil || e != want {
		t.Errorf("New(%v) = %v, %d, want error %d", c, p, e, want)
	}
}

// P34.1: each error, and of two errors the one that is promised first.
func TestNewErrors(t *testing.T) {
	of(t, whole(t))
	groups := wrongs()
	for i, group := range groups {
		for _, w := range group {
			c := whole(t)
			w.spoil(&c)
			fails(t, c, w.e)
			for _, later := range slices.Concat(groups[i+1:]...) {
				c = whole(t)
				later.spoil(&c) // a list that w makes may not have what this one spoils
				w.spoil(&c)
				fails(t, c, w.e)
			}
		}
	}
}

// P34.1: for tasks and ports, the first one with an error counts.
func TestNewFirst(t *testing.T) {
	c := whole(t)
	c.Ports[1].Words, c.Ports[2].Words = 0, 0
	fails(t, c, api.ErrArg)
	c = whole(t)
	c.Ports[0], c.Ports[2] = c.Ports[2], c.Ports[0]
	c.Ports[0].Words, c.Ports[2].Words = 0, 0
	fails(t, c, api.ErrRange)
	c = whole(t)
	c.Rules = []health.Rule{{Error: 1, Level: 0, Do: 4}, {Error: 0}}
	fails(t, c, api.ErrArg)
}

// P34.1: what is just possible.
func TestNewEdges(t *testing.T) {
	for _, change := range []func(c *part.Config){
		func(c *part.Config) { *c = part.Config{Areas: c.Areas, Image: c.Image} },
		func(c *part.Config) { c.Tasks = nil },
		func(c *part.Config) { c.Tasks = again(16, c.Tasks[1]) },
		func(c *part.Config) { c.Tasks[0].Floor, c.Tasks[0].Top = 0, 0 },
		func(c *part.Config) { c.Tasks[0].Floor, c.Tasks[0].Top = 65536, 65536 },
		func(c *part.Config) { c.Tasks[0].Floor, c.Tasks[0].Top = 0, 65536 },
		func(c *part.Config) { c.Ceilings = again(16, 63) },
		func(c *part.Config) { c.Semas = again(16, part.Sema{First: 65535, Most: 65535}) },
		func(c *part.Config) { c.Events = 16 },
		func(c *part.Config) { c.Boards = again(16, 32) },
		func(c *part.Config) { c.Buffers = again(16, part.Buffer{Words: 32, Room: 32}) },
		func(c *part.Config) { c.Ports = again(16, part.Port{Words: 1}) },
		func(c *part.Config) { c.Ports = again(16, part.Port{Words: 1, Room: -5, Refresh: 1 << 20}) },
		func(c *part.Config) { c.Ports = again(16, part.Port{Queue: true, Words: 32, Room: 32, Refresh: -5}) },
		func(c *part.Config) { c.Restarts = 1000 },
		func(c *part.Config) { c.Restarts = 0 },
		func(c *part.Config) { c.Size, c.Period = 0, -7 },
		func(c *part.Config) { c.Size, c.Period = 0, math.MaxInt },
		func(c *part.Config) { c.Size, c.Period = 1, 1 },
		func(c *part.Config) { c.Size, c.Period = 1<<20, 1<<20 },
	} {
		c := whole(t)
		change(&c)
		of(t, c)
	}
	fails(t, part.Config{}, api.ErrRange)
}

// P34.1: what a partition is that was just made: dormant processes, registers of nothing, the words of the image.
func TestNewState(t *testing.T) {
	c := whole(t)
	p := of(t, c)
	v := p.View()
	if v.Mode != 1 || v.Starts != 0 || !slices.Equal(v.States, []int{proc.Dormant, proc.Dormant}) || !slices.Equal(v.Regs, make([][16]uint32, 2)) {
		t.Errorf("the View is %v", v)
	}
	isAt(t, c, p, codeAt, c.Image.Sections[0].Words[0], 0)
	isAt(t, c, p, codeAt+apart, c.Image.Sections[1].Words[0], 0)
	isAt(t, c, p, dataAt, 1, 2, 3, 4, 0, 0)
	isAt(t, c, p, keepAt, 5, 0)
	isAt(t, c, p, fixedAt, 7, 8, 0)
	if r := p.Step(3); !sameReport(r, part.Report{Ran: -1, Call: -1, Mode: 1}) {
		t.Errorf("before it began, the Report is %v", r)
	}
	for port := range c.Ports {
		if n := p.Room(port); n != 0 {
			t.Errorf("before it began, Room(%d) is %d", port, n)
		}
	}
	takes(t, p, 3, message(0, 1), api.ErrMode)
	ends(t, p, 4)
	if !p.Same(of(t, c)) {
		t.Error("what did nothing is not as it was made")
	}
}

// P34.1: a partition does not see what is done with the lists that it was made from.
func TestNewKeepsNothing(t *testing.T) {
	configs := []part.Config{whole(t), whole(t)}
	for i := range configs {
		c := &configs[i]
		c.Rules[0], c.Size = health.Rule{Error: api.ErrDivide, Level: 1, Do: book.ColdStart}, 0
		c.Image.Sections[0].Words = assemble(t, "div r1 r1")
	}
	c := configs[0]
	p, other := begun(t, c, 0), begun(t, configs[1], 0)
	for i := range c.Image.Sections {
		clear(c.Image.Sections[i].Words)
	}
	clear(c.Image.Sections)
	clear(c.Image.Entries)
	clear(c.Areas)
	clear(c.Tasks)
	clear(c.Ceilings)
	clear(c.Semas)
	clear(c.Boards)
	clear(c.Buffers)
	clear(c.Ports)
	clear(c.Rules)
	for now := range 40 {
		if now%20 == 0 {
			p.Begin(now)
			other.Begin(now)
		}
		if a, b := p.Step(now), other.Step(now); !sameReport(a, b) || !p.Same(other) {
			t.Fatalf("at %d, it is %v, want %v", now, a, b)
		}
	}
	if p.View().Starts == 0 {
		t.Error("it did not restart")
	}
}
