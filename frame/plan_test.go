package frame_test

import (
	"math/rand"
	"testing"

	"monocoque/api"
	"monocoque/frame"
)

// three are tables of which each tick tells the mode: 0 has the first tick of 3, 1 has both of 2, 2 has the last of 5.
func three() []frame.Table {
	return []frame.Table{table(3, [3]int{10, 0, 1}), table(2, [3]int{11, 0, 2}), table(5, [3]int{12, 4, 1})}
}

// tells holds what a plan tells of itself.
func tells(t *testing.T, p *frame.Plan, mode, wanted, now int) {
	t.Helper()
	w, has := p.Wanted()
	if has != (wanted >= 0) || has && w != wanted || !has && w != 0 || p.Mode() != mode || p.Now() != now {
		t.Errorf("Mode %d, Wanted %d %v, Now %d; want %d, %d, %d", p.Mode(), w, has, p.Now(), mode, wanted, now)
	}
}

// P9.2: how many tables, and which mode.
func TestNewPlan(t *testing.T) {
	for n := range 20 {
		var l []frame.Table
		for range n {
			l = append(l, table(4))
		}
		for _, mode := range append([]int{3, 4, 5, 6, 7, 8, 9, n - 1, n, n + 1}, extremes...) {
			p, e := frame.NewPlan(l, mode)
			want := api.OK
			if n < 1 || n > mostTables {
				want = api.ErrArg
			} else if mode < 0 || mode >= n {
				want = api.ErrMode
			}
			if e != want || (p == nil) != (e != api.OK) {
				t.Fatalf("NewPlan of %d tables, mode %d: %v, %d, want %d", n, mode, p, e, want)
			}
			if p != nil {
				tells(t, p, mode, -1, 0)
			}
		}
	}
}

// P9.2: the first error of the tables, ahead of the mode, behind their number.
func TestNewPlanOfWrongTables(t *testing.T) {
	over, short := table(9, [3]int{0, 0, 3}, [3]int{1, 2, 3}), table(0)
	for name, x := range wrong() {
		for at := range mostTables {
			for _, mode := range []int{-1, 0, at, mostTables} {
				l := make([]frame.Table, mostTables)
				for i := range l {
					l[i] = table(4)
				}
				l[at] = x.t
				if at+1 < len(l) {
					l[at+1] = over
					if x.e == api.ErrOver {
						l[at+1] = short
					}
				}
				if p, e := frame.NewPlan(l, mode); p != nil || e != x.e {
					t.Errorf("%s at %d, mode %d: %v, %d, want %d", name, at, mode, p, e, x.e)
				}
			}
		}
		l := make([]frame.Table, mostTables+1)
		l[0] = x.t
		if p, e := frame.NewPlan(l, 0); p != nil || e != api.ErrArg {
			t.Errorf("%s, and too many: %v, %d", name, p, e)
		}
	}
}

// P9.2: tables that are changed outside.
func TestNewPlanSharesNothing(t *testing.T) {
	l := three()
	p, q := must(t, 0, l...), must(t, 0, three()...)
	c := p.Clone()
	for i := range l {
		clear(l[i].Windows)
		l[i] = frame.Table{}
	}
	if !p.Same(q) || !c.Same(q) {
		t.Error("a plan has changed with its argument")
	}
	for mode := range 3 {
		for _, x := range []*frame.Plan{p, q, c} {
			x.Request(mode)
		}
		for range 20 {
			want := q.Tick()
			if a, b := p.Tick(), c.Tick(); a != want || b != want {
				t.Fatal(a, b, want)
			}
		}
	}
	l = three()
	must(t, 2, l...).Tick()
	for i, x := range three() {
		if !like(x, l[i]) {
			t.Error("an argument has changed")
		}
	}
}

// P9.2: each request, of each mode, with each mode wanted before.
func TestRequest(t *testing.T) {
	for mode := range 3 {
		for wanted := range 3 {
			for _, next := range append([]int{3, 4}, extremes...) {
				p := must(t, mode, three()...)
				p.Tick()
				expect := func(m int) int {
					if m == mode {
						return -1
					}
					return m
				}
				if e := p.Request(wanted); e != api.OK {
					t.Errorf("Request(%d): %d", wanted, e)
				}
				tells(t, p, mode, expect(wanted), 1)
				before := p.Clone()
				e := p.Request(next)
				if next < 0 || next > 2 {
					if e != api.ErrMode || !p.Same(before) {
						t.Errorf("Request(%d): %d, want ErrMode", next, e)
					}
					continue
				}
				if e != api.OK {
					t.Errorf("Request(%d): %d", next, e)
				}
				tells(t, p, mode, expect(next), 1)
			}
		}
	}
}

// P9.3: the ticks of the chapter's table, through two frames and a bit.
func TestTick(t *testing.T) {
	x := table(10, [3]int{0, 0, 3}, [3]int{1, 5, 4})
	p := must(t, 0, x)
	for now := range 25 {
		at := now % 10
		who, left := x.At(at)
		want := frame.Turn{Tick: now, Who: who, Left: left, Begins: at == 0 || at == 5, Ends: at == 2 || at == 8, Frame: at == 0}
		tells(t, p, 0, -1, now)
		if got := p.Tick(); got != want {
			t.Errorf("tick %d: %+v, want %+v", now, got, want)
		}
	}
}

// P9.3: windows that touch each other, also over the end of the frame, begin and end each for itself.
func TestTickOfTouchingWindows(t *testing.T) {
	p := must(t, 1, table(1), table(4, [3]int{6, 0, 1}, [3]int{6, 1, 2}, [3]int{6, 3, 1}))
	for now := range 12 {
		want := []frame.Turn{
			{Left: 1, Begins: true, Ends: true, Frame: true},
			{Left: 2, Begins: true},
			{Left: 1, Ends: true},
			{Left: 1, Begins: true, Ends: true},
		}[now%4]
		want.Tick, want.Mode, want.Who = now, 1, 6
		if got := p.Tick(); got != want {
			t.Errorf("tick %d: %+v, want %+v", now, got, want)
		}
	}
}

// P9.3: nobody's ticks neither begin nor end a window, the number being -1 for all of them.
func TestTickOfNobody(t *testing.T) {
	p := must(t, 0, table(3))
	for now := range 9 {
		want := frame.Turn{Tick: now, Who: -1, Left: 3 - now%3, Frame: now%3 == 0}
		if got := p.Tick(); got != want {
			t.Errorf("tick %d: %+v, want %+v", now, got, want)
		}
	}
}

// T11: a mode that is wanted, in each tick of a frame, comes into effect when that frame ends.
func TestModeAtTheEndOfAFrame(t *testing.T) {
	for from := range 3 {
		for to := range 3 {
			length := three()[from].Frame
			for asked := range length {
				p := must(t, from, three()...)
				for now := range length {
					tells(t, p, from, -1, now)
					if now == asked {
						p.Request(to)
					}
					if turn := p.Tick(); turn.Mode != from || turn.Tick != now || turn.Frame != (now == 0) {
						t.Fatal(from, to, asked, turn)
					}
					if to != from && now >= asked && now+1 < length {
						tells(t, p, from, to, now+1)
						p.Request(from)
						tells(t, p, from, -1, now+1)
						p.Request(to)
						break
					}
				}
				for p.Now() < length {
					if turn := p.Tick(); turn.Mode != from || turn.Frame {
						t.Fatal(from, to, asked, turn)
					}
				}
				tells(t, p, to, -1, length)
				if turn := p.Tick(); turn.Mode != to || turn.Tick != length || !turn.Frame {
					t.Fatal(from, to, asked, turn)
				}
			}
		}
	}
}

// P9.2: between two frames the mode has changed already, so that another request is for the frame after the next.
func TestRequestBetweenFrames(t *testing.T) {
	p := must(t, 1, three()...)
	p.Request(0)
	p.Tick()
	tells(t, p, 1, 0, 1)
	p.Tick()
	tells(t, p, 0, -1, 2)
	p.Request(2)
	tells(t, p, 0, 2, 2)
	for now := 2; now < 5; now++ {
		if turn := p.Tick(); turn.Mode != 0 || turn.Frame != (now == 2) {
			t.Error(turn)
		}
	}
	tells(t, p, 2, -1, 5)
	if turn := p.Tick(); turn != (frame.Turn{Tick: 5, Mode: 2, Who: -1, Left: 4, Frame: true}) {
		t.Error(turn)
	}
}

// slow is a plan as the chapter tells of it, with a frame that is painted anew for each tick.
type slow struct {
	l                       []frame.Table
	mode, wanted, now, tick int
}

func (s *slow) request(mode int) api.Errno {
	if mode < 0 || mode >= len(s.l) {
		return api.ErrMode
	}
	s.wanted = mode
	if mode == s.mode {
		s.wanted = -1
	}
	return api.OK
}

func (s *slow) step() frame.Turn {
	x := s.l[s.mode]
	p := paint(x)
	turn := frame.Turn{Tick: s.now, Mode: s.mode, Who: -1, Left: stay(p, s.tick), Frame: s.tick == 0}
	if i := p[s.tick]; i >= 0 {
		w := x.Windows[i]
		turn.Who, turn.Begins, turn.Ends = w.Who, s.tick == w.From, s.tick == w.From+w.Length-1
	}
	s.now++
	s.tick = (s.tick + 1) % x.Frame
	if s.tick == 0 && s.wanted >= 0 {
		s.mode, s.wanted = s.wanted, -1
	}
	return turn
}

// P9.2 and P9.3: any calls in any order.
func TestPlansAgainstAModel(t *testing.T) {
	dice := rand.New(rand.NewSource(92))
	for range 1500 {
		var l []frame.Table
		for range 1 + dice.Intn(mostTables) {
			l = append(l, tiny(dice))
		}
		s := &slow{l: l, mode: dice.Intn(len(l)), wanted: -1}
		p := must(t, s.mode, l...)
		for range 150 {
			switch dice.Intn(8) {
			case 0:
				mode := dice.Intn(len(l)+2) - 1
				if e, want := p.Request(mode), s.request(mode); e != want {
					t.Fatalf("Request(%d) = %d, want %d", mode, e, want)
				}
			case 1:
				p = p.Clone()
			default:
				if got, want := p.Tick(), s.step(); got != want {
					t.Fatalf("%v: %+v, want %+v", l, got, want)
				}
			}
			tells(t, p, s.mode, s.wanted, s.now)
			if t.Failed() {
				t.FailNow()
			}
		}
	}
}

// P9.4: what a plan and its clone become is up to each of them.
func TestClone(t *testing.T) {
	for n := range 12 {
		p, other := must(t, 2, three()...), must(t, 2, three()...)
		for range n {
			p.Tick()
			other.Tick()
		}
		p.Request(1)
		other.Request(1)
		c := p.Clone()
		if c == p || !c.Same(p) || !p.Same(c) || !c.Same(other) {
			t.Fatal("a clone is another one")
		}
		c.Request(0)
		tells(t, p, 2, 1, n)
		tells(t, c, 2, 0, n)
		for range 7 {
			c.Tick()
		}
		if !p.Same(other) {
			t.Error("a plan has changed with its clone")
		}
		was := c.Clone()
		for range 7 {
			if p.Tick() != other.Tick() {
				t.Error("a plan goes on otherwise after it was cloned")
			}
		}
		if !c.Same(was) {
			t.Error("a clone has changed with its plan")
		}
	}
}

// P9.4: each of the things that make plans differ, and the few that do not.
func TestSame(t *testing.T) {
	base := table(4, [3]int{1, 0, 2}, [3]int{2, 2, 2})
	after := func(n, request int, l ...frame.Table) *frame.Plan {
		p := must(t, 0, l...)
		for range n {
			p.Tick()
		}
		p.Request(request)
		return p
	}
	early := must(t, 0, base, base)
	early.Request(1)
	for range 4 {
		early.Tick()
	}
	late := must(t, 0, table(4), table(3))
	late.Request(1)
	for range 8 {
		late.Tick()
	}
	lately := must(t, 1, table(4), table(3))
	for range 8 {
		lately.Tick()
	}
	plans := []*frame.Plan{
		after(0, 0, base, base),
		after(0, 1, base, base),
		after(1, 0, base, base),
		after(1, 1, base, base),
		after(4, 0, base, base),
		early,
		after(4, 1, base, base),
		must(t, 1, base, base),
		after(0, 0, base),
		after(0, 0, base, base, base),
		after(0, 0, table(5, [3]int{1, 0, 2}, [3]int{2, 2, 2}), base),
		after(0, 0, base, table(5, [3]int{1, 0, 2}, [3]int{2, 2, 2})),
		after(0, 0, table(4, [3]int{1, 0, 2}), base),
		after(0, 0, table(4, [3]int{1, 0, 2}, [3]int{3, 2, 2}), base),
		after(0, 0, table(4, [3]int{1, 0, 1}, [3]int{2, 2, 2}), base),
		after(0, 0, table(4, [3]int{1, 1, 1}, [3]int{2, 2, 2}), base),
		after(0, 0, table(4, [3]int{1, 0, 2}, [3]int{2, 3, 1}), base),
		after(0, 0, table(4), base),
		late,   // the same mode and tick as the next one,
		lately, // but 1 tick from the beginning of its frame, where this one is 2
	}
	for i, a := range plans {
		for j, b := range plans {
			if a.Same(b) != (i == j) {
				t.Errorf("Same of %d and %d: %v", i, j, a.Same(b))
			}
		}
	}
	if a, b := must(t, 0, frame.Table{Frame: 2}), must(t, 0, frame.Table{Frame: 2, Windows: []frame.Window{}}); !a.Same(b) || !b.Same(a) {
		t.Error("no windows are not the same as none")
	}
	a, b := after(1, 1, base, base), after(1, 0, base, base)
	a.Request(0)
	if !a.Same(b) || !b.Same(a) {
		t.Error("a request that was taken back still counts")
	}
	a.Request(9)
	if !a.Same(b) {
		t.Error("a request that was refused counts")
	}
}

// P9.4: asking changes nothing.
func TestAskingChangesNothing(t *testing.T) {
	p := must(t, 0, three()...)
	p.Tick()
	p.Request(2)
	was := p.Clone()
	for range 3 {
		p.Mode()
		p.Wanted()
		p.Now()
		p.Clone()
		p.Same(was)
		if !p.Same(was) {
			t.Fatal("a plan has changed")
		}
	}
}

// P9.4: nil plans; and a plan that none of the functions has made does not panic.
func TestNilPlan(t *testing.T) {
	var p *frame.Plan
	for _, mode := range extremes {
		if e := p.Request(mode); e != api.ErrArg {
			t.Errorf("Request(%d) = %d", mode, e)
		}
	}
	if turn := p.Tick(); turn != (frame.Turn{}) {
		t.Error(turn)
	}
	tells(t, p, 0, -1, 0)
	if p.Clone() != nil || !p.Same(nil) || !p.Same(p) {
		t.Error("Clone or Same of a nil plan")
	}
	if q := must(t, 0, table(1)); q.Same(nil) || p.Same(q) || q.Same(p) {
		t.Error("a plan is the same as none")
	}
	q := &frame.Plan{}
	q.Tick()
	q.Request(0)
	q.Mode()
	q.Wanted()
	q.Now()
	q.Clone().Same(q)
}

// P9.5: each frame gives everybody just the total.
func TestEachFrameGivesTheTotal(t *testing.T) {
	dice := rand.New(rand.NewSource(95))
	for range 300 {
		l := []frame.Table{tiny(dice), tiny(dice), tiny(dice)}
		p := must(t, 0, l...)
		for range 10 {
			x := l[p.Mode()]
			got := map[int]int{}
			for i := range x.Frame {
				turn := p.Tick()
				if turn.Frame != (i == 0) {
					t.Fatal(turn)
				}
				got[turn.Who]++
				if dice.Intn(4) == 0 {
					p.Request(dice.Intn(3))
				}
			}
			for who := range 4 {
				if got[who] != x.Total(who) {
					t.Errorf("%v gives %d %d ticks", x, who, got[who])
				}
			}
		}
	}
}

// P9.5: requests change no tick of the frame in which they are made.
func TestRequestsChangeNoTickOfTheirFrame(t *testing.T) {
	dice := rand.New(rand.NewSource(96))
	for range 300 {
		l := []frame.Table{tiny(dice), tiny(dice), tiny(dice)}
		p := must(t, dice.Intn(3), l...)
		for range 5 {
			quiet := p.Clone()
			for range l[p.Mode()].Frame {
				p.Request(dice.Intn(4))
				if a, b := p.Tick(), quiet.Tick(); a != b {
					t.Fatalf("%+v, without a request %+v", a, b)
				}
			}
		}
	}
}
