package part_test

import (
	"math/rand"
	"slices"
	"testing"

	"monocoque/api"
	"monocoque/calls"
	"monocoque/health"
	"monocoque/image"
	"monocoque/isa"
	"monocoque/part"
	"monocoque/proc"
	"monocoque/space"
)

// author writes random code for a partition.
type author struct {
	*rand.Rand
	c    part.Config
	code []uint32
}

func (a *author) write(i isa.Instr) {
	w, e := isa.Encode(i)
	if e != api.OK {
		panic(i)
	}
	a.code = append(a.code, w)
}

// place returns one that a message could have, and sometimes one that it could not.
func (a *author) place() int {
	switch a.Intn(16) {
	case 0:
		return fixedAt + a.Intn(4)
	case 1:
		return codeAt + a.Intn(100)
	case 2:
		return -1 - a.Intn(3)
	case 3:
		return dataAt + a.c.Areas[0].Words - a.Intn(4)
	case 4, 5:
		return keepAt + a.Intn(4)
	}
	return dataAt + a.Intn(a.c.Areas[0].Words-8)
}

func (a *author) ticks() int {
	switch a.Intn(8) {
	case 0, 1:
		return 0
	case 2:
		return -1
	}
	return 1 + a.Intn(12)
}

// object returns one that a call could have, mostly.
func (a *author) object(n int) int {
	most := 0
	switch {
	case n >= calls.Start && n <= calls.Priority:
		most = len(a.c.Tasks)
	case n == calls.Take || n == calls.Give:
		most = len(a.c.Ceilings)
	case n == calls.Down || n == calls.Up:
		most = len(a.c.Semas)
	case n >= calls.Raise && n <= calls.Await:
		most = a.c.Events
	case n >= calls.Show && n <= calls.Look:
		most = len(a.c.Boards)
	case n == calls.Send || n == calls.Receive:
		most = len(a.c.Buffers)
	case n >= calls.Write && n <= calls.Get:
		most = len(a.c.Ports)
		for o, p := range a.c.Ports {
			if p.Queue == (n >= calls.Put) && p.Out == (n == calls.Write || n == calls.Put) && a.Intn(2) == 0 {
				return o
			}
		}
	}
	if most == 0 || a.Intn(20) == 0 {
		return a.Intn(17)
	}
	return a.Intn(most)
}

// ask writes a random call.
func (a *author) ask() {
	n := a.Intn(calls.Normal + 1)
	switch {
	case a.Intn(40) == 0:
		n = a.Intn(40)
	case n == calls.Stop && a.Intn(3) > 0:
		n = calls.Start
	case n == calls.Suspend && a.Intn(2) > 0:
		n = calls.Resume
	case n == calls.Done && a.Intn(2) > 0:
		n = calls.Start
	}
	at, long := a.place(), a.Intn(4)
	switch {
	case n == calls.Priority:
		at = a.Intn(12)
	case n == calls.Fail:
		at = a.Intn(29)
	}
	if a.Intn(30) == 0 {
		long = 30 + a.Intn(5)
	}
	for i, v := range []int{a.object(n), at, long, a.ticks()} {
		if a.Intn(60) > 0 {
			a.write(isa.Instr{Op: isa.Set, A: i, N: v})
		}
	}
	a.write(isa.Instr{Op: isa.Trap, N: n})
}

// work writes something that is no call.
func (a *author) work() {
	switch a.Intn(12) {
	case 0:
		a.write(isa.Instr{Op: isa.Div, A: 4, B: a.Intn(8)})
	case 1:
		a.write(isa.Instr{Op: isa.Set, A: 5, N: a.place()})
		a.write(isa.Instr{Op: isa.Load, A: 6, B: 5})
	case 2:
		a.write(isa.Instr{Op: isa.Set, A: 5, N: a.place()})
		a.write(isa.Instr{Op: isa.Store, A: a.Intn(8), B: 5})
	case 3:
		a.write(isa.Instr{Op: isa.Push, A: a.Intn(8)})
	case 4:
		a.write(isa.Instr{Op: isa.Push, A: a.Intn(8)})
		a.write(isa.Instr{Op: isa.Pop, A: a.Intn(8)})
	case 5:
		a.write(isa.Instr{Op: isa.Loop, B: 2, N: 1 + a.Intn(4)})
		a.write(isa.Instr{Op: isa.Addn, A: 7, N: 1})
		a.write(isa.Instr{Op: isa.Mul, A: 6, B: 7})
	case 6:
		a.code = append(a.code, a.Uint32())
	default:
		a.write(isa.Instr{Op: isa.Nop})
	}
}

// program writes the code of a process, and returns where it begins.
func (a *author) program() int {
	at := len(a.code)
	for range 2 + a.Intn(12) {
		if a.Intn(7) == 0 {
			a.work()
		} else {
			a.ask()
		}
	}
	if a.Intn(3) == 0 {
		a.write(isa.Instr{Op: isa.Trap, N: calls.Done})
	}
	a.write(isa.Instr{Op: isa.Jump, N: at - len(a.code) - 1})
	return at
}

// somewhat returns 0, or a number from 1 on.
func (a *author) somewhat(most int) int { return max(0, a.Intn(2*most)-most+1) }

func (a *author) attr() proc.Attr {
	x := proc.Attr{Priority: 1 + a.Intn(9), Capacity: a.somewhat(60), Deadline: a.somewhat(80), Offset: a.somewhat(9)}
	if a.Intn(3) > 0 {
		x.Period = 10 + a.Intn(60)
	}
	return x
}

// few returns from 1 to 3, mostly.
func (a *author) few() int {
	if a.Intn(8) == 0 {
		return 0
	}
	return 1 + a.Intn(3)
}

// rules returns such that let a partition live for some time.
func (a *author) rules() []health.Rule {
	var l []health.Rule
	seldom := 2 + a.Intn(20)
	for e := api.ErrArg; e <= api.ErrFlow; e++ {
		do := a.Intn(4)
		if e <= api.ErrRights || e == api.ErrCode || e == api.ErrStack || e == api.ErrDivide {
			do = max(do, 2+a.Intn(2)) // or it would occur for good
		}
		if a.Intn(4) > 0 {
			l = append(l, health.Rule{Error: e, Level: 0, Do: do})
		}
		if do = a.Intn(2); a.Intn(2) == 0 || e == api.ErrTime {
			if a.Intn(seldom) == 0 {
				do = 4 + a.Intn(3)
			}
			l = append(l, health.Rule{Error: e, Level: 1, Do: do})
		}
	}
	a.Shuffle(len(l), func(i, j int) { l[i], l[j] = l[j], l[i] })
	return l
}

// config returns a random Config that a partition can be made from.
func (a *author) config() part.Config {
	words, c := 20+a.Intn(30), &a.c
	c.Restarts, c.Rules, c.Events = a.Intn(6), a.rules(), a.few()
	c.Areas = []space.Area{
		{From: dataAt, Words: words, Write: true, Run: a.Intn(2) == 0},
		{From: codeAt, Run: true, Write: a.Intn(9) == 0},
		{From: keepAt, Words: 8, Write: true, Keep: true},
		{From: fixedAt, Words: 6, Keep: a.Intn(2) == 0},
		{From: stackAt, Words: 20, Write: true, Keep: a.Intn(4) == 0},
	}
	for range a.few() {
		c.Ceilings = append(c.Ceilings, 3+a.Intn(9))
	}
	for range a.few() {
		most := 1 + a.Intn(3)
		c.Semas = append(c.Semas, part.Sema{First: a.Intn(most + 1), Most: most, ByPriority: a.Intn(2) == 0})
	}
	for range a.few() {
		c.Boards = append(c.Boards, 1+a.Intn(4))
	}
	for range a.few() {
		c.Buffers = append(c.Buffers, part.Buffer{Words: 1 + a.Intn(4), Room: 1 + a.Intn(2), ByPriority: a.Intn(2) == 0})
	}
	for range 3 * a.few() {
		p := part.Port{Out: a.Intn(2) == 0, Queue: a.Intn(2) == 0, Words: 1 + a.Intn(4), Room: 1 + a.Intn(3), Refresh: a.Intn(20)}
		c.Ports = append(c.Ports, p)
	}
	if a.Intn(2) == 0 {
		c.Period = 5 + a.Intn(40)
		c.Size = 1 + a.Intn(c.Period)
	}
	c.Tasks = make([]part.Task, 1+a.Intn(5))
	var entries []int
	for i := range c.Tasks {
		entries = append(entries, a.program())
		c.Tasks[i] = part.Task{Attr: a.attr(), Entry: i, Floor: stackAt + 4*i, Top: stackAt + 4*i + a.Intn(5)}
	}
	c.Areas[1].Words = len(a.code) + a.Intn(3)
	c.Image = image.Image{Entries: entries, Sections: []image.Section{
		{At: codeAt, Words: a.code},
		{At: dataAt + 3, Words: []uint32{a.Uint32(), a.Uint32(), a.Uint32()}},
		{At: keepAt + 1, Words: []uint32{a.Uint32(), a.Uint32()}},
		{At: fixedAt, Words: []uint32{a.Uint32(), a.Uint32(), 5}},
	}}
	return *c
}

func (a *author) message(ports int) part.Message {
	m := part.Message{Port: a.Intn(ports+2) - 1}
	for range a.Intn(5) {
		m.Words = append(m.Words, a.Uint32())
	}
	return m
}

// met counts what happened.
type met struct {
	calls  map[int]int
	answer map[api.Errno]int
	faults map[part.Fault]int
	modes  map[int]int
	out    int
	in     map[api.Errno]int
}

func (c *met) see(r part.Report) {
	if r.Call >= 0 {
		c.calls[r.Call]++
		c.answer[r.E]++
	}
	for _, f := range r.Faults {
		f.Process = max(-1, min(f.Process, 0))
		c.faults[f]++
	}
	c.modes[r.Mode]++
}

// sameReport tells whether two reports are equal; a list that is nil is as good as an empty one.
func sameReport(a, b part.Report) bool {
	return a.Ran == b.Ran && a.Call == b.Call && a.E == b.E && a.Mode == b.Mode && slices.Equal(a.Words, b.Words) &&
		slices.Equal(a.Faults, b.Faults)
}

func sameView(a, b part.View) bool {
	return a.Mode == b.Mode && a.Starts == b.Starts && slices.Equal(a.States, b.States) && slices.Equal(a.Regs, b.Regs) &&
		slices.Equal(a.Words, b.Words)
}

func sameMessages(a, b []part.Message) bool {
	return slices.EqualFunc(a, b, func(x, y part.Message) bool { return x.Port == y.Port && slices.Equal(x.Words, y.Words) })
}

// live lets a partition and its model have the same windows and messages, with another partition that is a clone.
func live(t *testing.T, a *author, c part.Config, c0 *met) {
	t.Helper()
	p, m := of(t, c), newModel(c)
	now, left, other := a.Intn(20), 0, p.Clone()
	if a.Intn(8) == 0 {
		now += 1<<32 - 100
	}
	var sent []part.Message
	for range 250 {
		if left == 0 {
			want := m.End(now)
			if sent = p.End(now); !sameMessages(sent, want) {
				t.Fatalf("at %d: End is %v, want %v", now, sent, want)
			}
			other.End(now)
			c0.out += len(sent)
			now += a.Intn(6)
			for range a.Intn(5) {
				l := a.message(len(c.Ports))
				e := p.In(now, l)
				if want := m.In(now, l); e != want {
					t.Fatalf("at %d: In(%v) is %d, want %d", now, l, e, want)
				}
				other.In(now, l)
				c0.in[e]++
			}
			for port := -1; port <= len(c.Ports); port++ {
				if a.Intn(3) > 0 {
					continue
				}
				var l [][]uint32
				for _, s := range sent {
					if s.Port == port || a.Intn(9) == 0 {
						l = append(l, s.Words)
					}
				}
				p.Back(port, l)
				m.Back(port, l)
				other.Back(port, l)
			}
			p.Begin(now)
			m.Begin(now)
			other.Begin(now)
			left = 1 + a.Intn(30)
		}
		r, want := p.Step(now), m.Step(now)
		c0.see(r)
		if !sameReport(r, want) {
			t.Fatalf("at %d: Step is %v, want %v", now, r, want)
		}
		if v, want := p.View(), m.View(); !sameView(v, want) {
			t.Fatalf("at %d, after %v: View is\n%v, want\n%v", now, r, v, want)
		}
		for port := -1; port <= len(c.Ports); port++ {
			if n, want := p.Room(port), m.Room(port); n != want {
				t.Fatalf("at %d: Room(%d) is %d, want %d", now, port, n, want)
			}
		}
		if other.Step(now); !p.Same(other) || !other.Same(p) {
			t.Fatalf("at %d: a clone to which the same happened is not the same", now)
		}
		if a.Intn(40) == 0 {
			p, other = other.Clone(), p
		}
		now++
		left--
	}
}

// P34.1 to P34.5: any code in any windows, against the definition.
func TestAgainstTheDefinition(t *testing.T) {
	c0 := &met{map[int]int{}, map[api.Errno]int{}, map[part.Fault]int{}, map[int]int{}, 0, map[api.Errno]int{}}
	for seed := range int64(1500) {
		a := &author{Rand: rand.New(rand.NewSource(seed))}
		c := a.config()
		if live(t, a, c, c0); t.Failed() {
			t.Fatal("the seed was", seed)
		}
	}
	for n := range calls.Normal + 1 {
		if c0.calls[n] < 200 {
			t.Errorf("%s was done %d times only", calls.Word(n), c0.calls[n])
		}
	}
	for _, e := range []api.Errno{api.OK, api.ErrRange, api.ErrTwice, api.ErrFull, api.ErrNone, api.ErrState, api.ErrRights, api.ErrMode, api.ErrWait} {
		if c0.answer[e] < 80 {
			t.Errorf("the answer %d was given %d times only", e, c0.answer[e])
		}
	}
	for do := range 7 {
		for i := -1; i < 1; i++ {
			if f := (part.Fault{Process: i, E: api.ErrTime, Do: do}); c0.faults[f] < 8 && (i == 0 || do < 2 || do > 3) {
				t.Errorf("%v occurred %d times only", f, c0.faults[f])
			}
		}
	}
	for mode := range 4 {
		if c0.modes[mode] < 300 {
			t.Errorf("%d ticks only in the mode %d", c0.modes[mode], mode)
		}
	}
	if c0.out < 500 || c0.in[api.ErrLost] < 50 || c0.in[api.OK] < 500 || c0.in[api.ErrMode] < 50 {
		t.Error("few messages:", c0.out, c0.in)
	}
	t.Log(c0.calls, c0.answer, c0.modes, c0.out, c0.in)
}
