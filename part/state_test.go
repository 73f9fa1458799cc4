package part_test

import (
	"slices"
	"testing"

	"monocoque/api"
	"monocoque/book"
	"monocoque/calls"
	"monocoque/health"
	"monocoque/image"
	"monocoque/part"
	"monocoque/proc"
	"monocoque/space"
)

// P34.4: partitions that were made from Configs that differ in anything are not the same.
func TestSameConfig(t *testing.T) {
	made := func(change func(c *part.Config)) *part.Part {
		c := whole(t)
		c.Rules = append(c.Rules, health.Rule{Error: api.ErrCode, Level: book.LevelProcess, Do: book.Ignore})
		change(&c)
		return of(t, c)
	}
	nothing := made(func(c *part.Config) {})
	if !nothing.Same(made(func(c *part.Config) {})) {
		t.Error("two partitions that were made from the same Config are not the same")
	}
	for i, change := range []func(c *part.Config){
		func(c *part.Config) { c.Areas[1].Keep = true },
		func(c *part.Config) { c.Areas[0].Write = true },
		func(c *part.Config) { c.Areas[3].Run = true },
		func(c *part.Config) { c.Areas[4].From++ },
		func(c *part.Config) { c.Areas = append(c.Areas, space.Area{From: 30000, Words: 1}) },
		func(c *part.Config) { c.Image.Sections[2].Words = []uint32{1, 2, 3, 4, 0} },
		func(c *part.Config) { c.Image.Sections[2].Words[1] = 9 },
		func(c *part.Config) {
			c.Image.Sections = append(c.Image.Sections, image.Section{At: stackAt, Words: []uint32{0}})
		},
		func(c *part.Config) {
			c.Image.Sections = slices.Replace(c.Image.Sections, 2, 3, image.Section{At: dataAt, Words: []uint32{1, 2}}, image.Section{At: dataAt + 2, Words: []uint32{3, 4}})
		},
		func(c *part.Config) { c.Image.Sections[3] = image.Section{At: keepAt, Words: []uint32{5, 0}} },
		func(c *part.Config) { c.Image.Entries = append(c.Image.Entries, 0) },
		func(c *part.Config) { c.Tasks[1].Attr.Priority++ },
		func(c *part.Config) { c.Tasks[1].Entry = 0 },
		func(c *part.Config) { c.Tasks[1].Floor++ },
		func(c *part.Config) { c.Tasks[1].Top++ },
		func(c *part.Config) { c.Tasks = c.Tasks[:1] },
		func(c *part.Config) { c.Ceilings[1]++ },
		func(c *part.Config) { c.Ceilings = append(c.Ceilings, 1) },
		func(c *part.Config) { c.Semas[1].Most++ },
		func(c *part.Config) { c.Semas[0].First++ },
		func(c *part.Config) { c.Semas[0].ByPriority = true },
		func(c *part.Config) { c.Semas = c.Semas[:1] },
		func(c *part.Config) { c.Events++ },
		func(c *part.Config) { c.Boards[1]++ },
		func(c *part.Config) { c.Buffers[0].Room++ },
		func(c *part.Config) { c.Buffers[0].ByPriority = true },
		func(c *part.Config) { c.Ports[0].Words-- },
		func(c *part.Config) { c.Ports[0].Refresh++ },
		func(c *part.Config) { c.Ports[0].Room++ },
		func(c *part.Config) { c.Ports[2].Refresh++ },
		func(c *part.Config) { c.Ports[2].Out = true },
		func(c *part.Config) { c.Rules[0].Do = book.Tell },
		func(c *part.Config) { c.Rules = c.Rules[:1] },
		func(c *part.Config) { slices.Reverse(c.Rules) },
		func(c *part.Config) { c.Restarts-- },
		func(c *part.Config) { c.Size-- },
		func(c *part.Config) { c.Period++ },
		func(c *part.Config) { c.Size = 0 },
	} {
		if other := made(change); nothing.Same(other) || other.Same(nothing) {
			t.Errorf("with the change %d, they are the same", i)
		}
	}
	with := func(at int) *part.Part {
		return made(func(c *part.Config) {
			c.Image.Sections = append(c.Image.Sections, image.Section{At: at, Words: []uint32{0}})
		})
	}
	if !with(stackAt).Same(with(stackAt)) || with(stackAt).Same(with(stackAt+1)) {
		t.Error("where a section is makes no difference")
	}
	bare := func(ceilings []int, period int) *part.Part {
		c := part.Config{Areas: whole(t).Areas, Image: whole(t).Image, Ceilings: ceilings, Period: period}
		return of(t, c)
	}
	if !bare(nil, 3).Same(bare([]int{}, 3)) || bare(nil, 3).Same(bare(nil, 4)) {
		t.Error("a list that is nil is another one than an empty one, or a period that is not used makes no difference")
	}
}

// twins returns two partitions with the same Config, whose process 0 has done something if the message was 1 and is
// dormant again. Its process 1 rests or is dormant, if nothing starts it.
func twins(t *testing.T, c part.Config, something string) (p, o *part.Part) {
	t.Helper()
	c.Image.Sections[0].Words = assemble(t, lines(ask(calls.Read, 0, 1010), "set r4 1010", "load r4 r4 0", "jz r4 over", something, "over:",
		"set r5 1010", "set r6 0", "store r6 r5 0", "trap 3"))
	p, o = begun(t, c, 0), begun(t, c, 0)
	takes(t, p, 0, message(0, 0), api.OK)
	takes(t, o, 0, message(0, 1), api.OK)
	for now := range 60 {
		p.Step(now)
		o.Step(now)
	}
	takes(t, p, 60, message(0, 5), api.OK)
	takes(t, o, 60, message(0, 5), api.OK)
	return p, o
}

func lively(t *testing.T) part.Config {
	t.Helper()
	c := whole(t)
	c.Size, c.Period = 0, 0
	c.Rules = []health.Rule{{Error: api.ErrOld, Level: book.LevelProcess, Do: book.Ignore}}
	c.Tasks[1].Attr.Offset = 1000
	return c
}

// P34.4: partitions that differ in one thing only are not the same.
func TestSameState(t *testing.T) {
	if p, o := twins(t, lively(t), "nop"); !p.Same(o) || !o.Same(p) {
		t.Fatal("partitions that differ in nothing are not the same")
	}
	for what, s := range map[string]string{
		"words":     lines("set r7 9", "set r8 1020", "store r7 r8 0"),
		"processes": ask(calls.Stop, 1),
		"priority":  ask(calls.Priority, 1, 3),
		"held":      ask(calls.Suspend, 1),
		"semaphore": ask(calls.Up, 1),
		"event":     ask(calls.Raise, 1),
		"board":     ask(calls.Show, 1, 1000, 1),
		"buffer":    ask(calls.Send, 1, 1000, 1, 0),
		"write":     ask(calls.Write, 1, 1000, 1),
		"put":       ask(calls.Put, 3, 1000, 1),
		"counts":    ask(calls.Fail, 0, int(api.ErrOld)),
	} {
		if p, o := twins(t, lively(t), s); p.Same(o) || o.Same(p) {
			t.Errorf("partitions that differ in %s are the same", what)
		}
	}
	c := lively(t)
	c.Size, c.Period = 100, 100
	if p, o := twins(t, c, "nop"); p.Same(o) || o.Same(p) {
		t.Error("partitions that differ in what was used of the budget are the same")
	}
	p, _ := twins(t, lively(t), "nop")
	o := p.Clone()
	takes(t, o, 60, message(2, 1), api.OK)
	if p.Same(o) {
		t.Error("partitions that differ in a message are the same")
	}
	o = p.Clone()
	takes(t, o, 60, message(0, 6), api.OK)
	if p.Same(o) {
		t.Error("partitions that differ in a sampling message are the same")
	}
	_, p = twins(t, lively(t), ask(calls.Write, 1, 1000, 1))
	o = p.Clone()
	o.End(60)
	if p.Same(o) {
		t.Error("partitions are the same, of which one would send a message")
	}
}

// P34.4: whether two partitions are the same when they have lived differently.
func TestSameLife(t *testing.T) {
	c := onError(onError(world(t, lines(ask(calls.Read, 0, 1010), "set r4 1010", "load r9 r4 0", "set r5 0", "store r5 r4 0", ask(calls.Fail, 0, 18), still)), api.ErrOld, 0), api.ErrDivide, book.ColdStart)
	c.Ports = []part.Port{{Words: 1, Refresh: 1000}}
	var l []*part.Part
	for i := range uint32(3) {
		p := begun(t, c, 0)
		takes(t, p, 0, message(0, i/2), api.OK)
		after(p, 0, 40)
		takes(t, p, 0, message(0), api.OK)
		l = append(l, p)
	}
	if !l[0].Same(l[1]) || l[0].Same(l[2]) || l[2].Same(l[0]) {
		t.Error("registers make no difference, or something else does")
	}
	// Which call a process did before makes none.
	c.Image.Sections[0].Words = assemble(t, lines(ask(calls.Read, 0, 1010), "set r4 1010", "load r9 r4 0", "set r5 0", "store r5 r4 0", "jz r9 self",
		"trap 0", "jump over", "self:", "trap 1", "nop", "over:", "set r0 0", "set r1 0", "set r9 0", forever))
	l = nil
	for i := range uint32(2) {
		p := begun(t, c, 0)
		takes(t, p, 0, message(0, i), api.OK)
		after(p, 0, 40)
		takes(t, p, 0, message(0), api.OK)
		l = append(l, p)
	}
	if !l[0].Same(l[1]) {
		t.Error("a call that is done makes a difference")
	}
	if begun(t, c, 3).Same(begun(t, c, 4)) {
		t.Error("when its release began makes no difference")
	}
	c = onError(world(t, lines("nop", "div r0 r0")), api.ErrDivide, book.ColdStart)
	p, o := begun(t, c, 0), begun(t, c, 30)
	after(p, 0, 12)
	p.Begin(30)
	if p.View().Starts != 1 || p.Same(o) || o.Same(p) {
		t.Error("that it restarted makes no difference")
	}
	o = of(t, c)
	if o.Same(begun(t, c, 0)) {
		t.Error("its mode makes no difference")
	}
	// One of both reported that the budget is exhausted now, and the other one that it was.
	c = world(t, forever)
	c.Size, c.Period = 2, 10
	c.Rules = []health.Rule{{Error: api.ErrTime, Level: book.LevelPart, Do: book.Tell}}
	p, o = begun(t, c, 0), begun(t, c, 0)
	happens(t, p, 0, 3, "2 !-1 16 1")
	happens(t, p, 10, 2)
	happens(t, o, 0, 2)
	happens(t, o, 10, 3, "12 !-1 16 1")
	if p.Same(o) || o.Same(p) {
		t.Error("what was reported makes no difference")
	}
	happens(t, p, 13, 1, "13 !-1 16 1")
	happens(t, o, 13, 1)
}

// differ returns two partitions with the same Config, of which the first one had the message 0 and the other one
// another message at the same tick, after the same number of ticks.
func differ(t *testing.T, c part.Config, other uint32, ticks int) (p, o *part.Part) {
	t.Helper()
	c.Ports = []part.Port{{Words: 1, Refresh: 1000}}
	p, o = begun(t, c, 0), begun(t, c, 0)
	takes(t, p, 0, message(0, 0), api.OK)
	takes(t, o, 0, message(0, other), api.OK)
	for now := range ticks {
		p.Step(now)
		o.Step(now)
	}
	takes(t, p, ticks, message(0), api.OK)
	takes(t, o, ticks, message(0), api.OK)
	return p, o
}

// first is code by which a process has the message in r8, and no other trace of it.
var first = lines(ask(calls.Read, 0, 1010), "set r9 1010", "load r8 r9 0", "set r7 0", "store r7 r9 0")

// P34.4: what a process waited for makes no difference any more when it has waited, and which locks it has makes one.
func TestSameAfterWaiting(t *testing.T) {
	// The process 1 downs and is woken by the process 0, or waits till that has given its signal, and has it at once.
	c := priorities(world(t, lines(ask(calls.Up, 0), forever),
		lines(first, "set r0 0", "set r1 0", "set r2 0", "move r3 r8", "trap 2", "set r8 0", ask(calls.Down, 0, 0, 0, -1), forever)), 5, 9)
	c.Semas = []part.Sema{{Most: 1}}
	p, o := differ(t, c, 5, 60)
	if p.View().Regs[1][0] != 0 || !p.Same(o) || !o.Same(p) {
		t.Error("that a process had to wait makes a difference")
	}
	// The process waits for a time, or does not, while the partition has no ticks.
	c = world(t, lines(first, "move r3 r8", "trap 2", "set r8 0", "set r3 0", forever))
	p, o = differ(t, c, 5, 19)
	if p.Same(o) {
		t.Error("that a process waits makes no difference")
	}
	for now := 30; now < 35; now++ {
		p.Step(now)
		o.Step(now)
	}
	if !p.Same(o) {
		t.Error("that a process has waited for a time makes a difference")
	}
	c = world(t, lines(first, "move r0 r8", "set r3 0", "trap 9", "set r8 0", forever))
	c.Ceilings = []int{9, 9}
	p, o = differ(t, c, 1, 40)
	if s, v := p.View(), o.View(); s.Regs[0] != v.Regs[0] || p.Same(o) || o.Same(p) {
		t.Error("which lock a process has makes no difference")
	}
}

// P34.4: a clone shares nothing, whatever happens to it or to the other one.
func TestClone(t *testing.T) {
	c := restless(t, book.ColdStart)
	p := begun(t, c, 0)
	takes(t, p, 0, message(0, 1), api.OK)
	var clones []*part.Part
	for now := range 146 {
		clones = append(clones, p.Clone())
		if !clones[now].Same(p) || !p.Same(clones[now]) {
			t.Fatalf("at %d, a clone is another one", now)
		}
		p.Step(now)
	}
	// The clones were not touched, and each one does what p did.
	q := begun(t, c, 0)
	takes(t, q, 0, message(0, 1), api.OK)
	for now := range 146 {
		if !q.Same(clones[now]) {
			t.Fatalf("the clone of %d was changed", now)
		}
		q.Step(now)
	}
	for now, o := range clones {
		for n := now; n < 146; n++ {
			o.Step(n)
		}
		if !o.Same(p) {
			t.Fatalf("the clone of %d does something else", now)
		}
	}
	o := p.Clone()
	o.Begin(200)
	if p.Same(o) {
		t.Error("what happens to a clone happens to both")
	}
}

// P34.4: what View returns is not the partition's own, and neither is what End returns or In is passed.
func TestViewKeepsNothing(t *testing.T) {
	c := ports(t, ask(calls.Put, 3, 1000, 2), ask(calls.Write, 1, 1000, 2), forever)
	p := begun(t, c, 0)
	after(p, 0, 20)
	before := p.Clone()
	v := p.View()
	clear(v.Words)
	clear(v.Regs)
	clear(v.States)
	if !p.Same(before) {
		t.Error("a View shares something with its partition")
	}
	o := p.Clone()
	for _, m := range p.End(20) {
		clear(m.Words)
	}
	ends(t, o, 20, message(1, 1, 2), message(3, 1, 2))
	p.Begin(21)
	m := message(2, 4, 5)
	takes(t, p, 21, m, api.OK)
	before = p.Clone()
	m.Words[0] = 9
	if !p.Same(before) {
		t.Error("a message shares something with the partition that got it")
	}
	// Words that are reported or sent are those of the time of the call.
	c = world(t, lines(ask(calls.Report, 0, 1000, 2), "set r5 9", "set r6 1000", "store r5 r6 0", ask(calls.Report, 0, 1000, 2), forever))
	p = begun(t, c, 0)
	var l [][]uint32
	for now := range 30 {
		if r := p.Step(now); r.Call >= 0 {
			l = append(l, r.Words)
		}
	}
	if len(l) != 2 || !slices.Equal(l[0], []uint32{1, 2}) || !slices.Equal(l[1], []uint32{9, 2}) {
		t.Errorf("the words are %v", l)
	}
}

// P34.4: View.
func TestView(t *testing.T) {
	c := onError(priorities(world(t, lines("set r15 3", "set r1 -1", "div r0 r0"), forever, forever), 5, 4, 4), api.ErrDivide, book.WarmStart)
	c.Tasks[1].Attr.Offset = 9
	p := begun(t, c, 0)
	after(p, 0, 2)
	v := p.View()
	if v.Mode != 3 || v.Starts != 0 || !slices.Equal(v.States, []int{proc.Ready, proc.Resting, proc.Ready}) || len(v.Regs) != 3 ||
		v.Regs[0] != [16]uint32{1: 1<<32 - 1, 15: 3} || v.Regs[1] != [16]uint32{} || len(v.Words) != 960+64+4+4+32 {
		t.Errorf("the View is %d, %d, %v, %v, and %d words", v.Mode, v.Starts, v.States, v.Regs, len(v.Words))
	}
	after(p, 2, 8)
	if v = p.View(); v.Mode != 2 || v.Starts != 1 || !slices.Equal(v.States, []int{0, 0, 0}) || v.Regs[0] != [16]uint32{} {
		t.Errorf("the View is %d, %d, %v, %v", v.Mode, v.Starts, v.States, v.Regs)
	}
	if v = of(t, part.Config{Areas: c.Areas, Image: c.Image}).View(); v.Mode != 1 || len(v.States)+len(v.Regs) != 0 {
		t.Errorf("without processes, the View is %v and %v", v.States, v.Regs)
	}
}
