package part_test

import (
	"testing"

	"monocoque/api"
	"monocoque/calls"
	"monocoque/part"
	"monocoque/proc"
)

// P34.2: show, hide and look, with and without those who wait.
func TestBoards(t *testing.T) {
	c := priorities(world(t,
		lines(ask(calls.Look, 0, 1010, 9, 0), ask(calls.Wait, 0, 0, 0, 40), ask(calls.Show, 0, 1000, 3), ask(calls.Show, 0, 1003, 4), ask(calls.Look, 0, 1014, 9, 0),
			ask(calls.Hide, 0), ask(calls.Look, 0, 1010, 9, 7), forever),
		lines(ask(calls.Look, 0, 1020, 9, -1), forever), lines(ask(calls.Look, 0, 2002, 9, 90), forever)), 9, 5, 4)
	c.Boards = []int{3}
	p := begun(t, c, 0)
	happens(t, p, 0, 60, "10 0 look 23", "17 0 wait 0", "28 1 look 0", "39 2 look 0")
	answered(t, p, 1, 0, 1020, 9)
	happens(t, p, 60, 6, "65 0 show 0")
	states(t, p, proc.Ready, proc.Ready, proc.Ready)
	answered(t, p, 0, 0, 0, 0)
	answered(t, p, 1, 0, 0, 3)
	answered(t, p, 2, 2, 0, 0) // there are two words from its place on
	isAt(t, c, p, 1020, 1, 2, 3, 0)
	isAt(t, c, p, 2002, 1, 2)
	isAt(t, c, p, 1010, 0)
	happens(t, p, 66, 21, "75 0 show 2", "86 0 look 0")
	answered(t, p, 0, 0, 0, 3)
	isAt(t, c, p, 1014, 1, 2, 3, 0)
	happens(t, p, 87, 14, "89 0 hide 0", "100 0 look 0")
	runs(t, p, 101, 1, 1, 1, 1, 1, 1, 0)
	answered(t, p, 0, 24, 0, 0)
}

// P34.2: words are loaded from anywhere, and stored where it may be.
func TestPlaces(t *testing.T) {
	for _, x := range []struct {
		at, words int
		e         api.Errno
	}{
		{1000, 4, api.OK}, {0, 4, api.OK}, {3000, 4, api.OK}, {2000, 4, api.OK}, {1060, 4, api.OK}, {1061, 4, api.ErrRange},
		{999, 1, api.ErrRange}, {5000, 0, api.OK}, {-1, 2, api.ErrRange}, {-1, 0, api.OK}, {3001, 4, api.ErrRange}, {1000, 5, api.ErrRange},
	} {
		c := world(t, lines(ask(calls.Show, 0, x.at, x.words), forever))
		c.Boards = []int{4}
		p := begun(t, c, 0)
		for now := range 12 {
			if r := p.Step(now); r.Call >= 0 && r.E != x.e {
				t.Errorf("%d words from %d on: %d, want %d", x.words, x.at, r.E, x.e)
			}
		}
	}
	for _, x := range []struct {
		at    int
		e     api.Errno
		words uint32
	}{
		{1000, api.OK, 3}, {1061, api.OK, 3}, {1062, api.ErrRange, 0}, {3000, api.ErrRights, 0}, {0, api.ErrRights, 0}, {2001, api.OK, 3}, {2002, api.ErrRange, 0},
		{-1, api.ErrRange, 0}, {500, api.ErrRights, 0}, {-4000, api.ErrRange, 0},
	} {
		c := world(t, lines(ask(calls.Show, 0, 1000, 3), ask(calls.Look, 0, x.at, 0, 0), forever))
		c.Boards = []int{4}
		p := begun(t, c, 0)
		before := of(t, c)
		for now := range 30 {
			if r := p.Step(now); r.Call == calls.Look && r.E != x.e {
				t.Errorf("to %d: %d, want %d", x.at, r.E, x.e)
			}
		}
		answered(t, p, 0, uint32(x.e), 0, x.words)
		for i := range uint32(3) {
			if at := x.at + int(i); x.e == api.OK || at < 2004 && at >= 2000 || at < 1064 && at >= 1000 {
				isAt(t, c, p, at, 1+i)
			} else if x.e == api.ErrRights && word(t, c, p, at) != word(t, c, before, at) {
				t.Errorf("the word at %d is another one", at)
			}
		}
	}
	// As many words as there can be.
	c := world(t, lines(ask(calls.Show, 0, codeAt, 32), ask(calls.Look, 0, 1010, 0, 0), forever))
	c.Boards = []int{32}
	p := begun(t, c, 0)
	happens(t, p, 0, 60, "37 0 show 0", "48 0 look 0")
	answered(t, p, 0, 0, 0, 32)
	for i := range 32 {
		isAt(t, c, p, 1010+i, word(t, c, p, codeAt+i))
	}
	isAt(t, c, p, 1042, 0)
}

// P34.2: senders that wait, by priority or by arrival, and what does not wait.
func TestSenders(t *testing.T) {
	for _, by := range []bool{false, true} {
		c := priorities(world(t,
			lines(ask(calls.Wait, 0, 0, 0, 60), ask(calls.Receive, 0, 1010, 9, 0), ask(calls.Receive, 0, 1012, 9, 0), ask(calls.Receive, 0, 1014, 9, 0),
				ask(calls.Receive, 0, 1016, 9, 0), forever),
			lines(ask(calls.Send, 0, 1000, 2, 0), ask(calls.Send, 0, 1001, 2, 0), ask(calls.Send, 0, 1001, 3, 0), ask(calls.Send, 0, 1001, 2, -1), forever),
			lines(ask(calls.Send, 0, 1003, 1, 300), forever)), 9, 4, 5)
		c.Tasks[2].Attr.Offset = 48
		c.Buffers = []part.Buffer{{Words: 2, Room: 1, ByPriority: by}}
		p := begun(t, c, 0)
		happens(t, p, 0, 66, "6 0 wait 0", "16 1 send 0", "26 1 send 23", "37 1 send 2", "47 1 send 0", "56 2 send 0")
		states(t, p, proc.Waiting, proc.Waiting, proc.Waiting)
		answered(t, p, 1, 0, 1001, 2)
		first, second, l := 1, 2, []uint32{1, 2, 2, 3, 4, 0}
		if by {
			first, second, l = 2, 1, []uint32{1, 2, 4, 0, 2, 3}
		}
		happens(t, p, 66, 11, "76 0 receive 0")
		answered(t, p, 0, 0, 0, 2)
		answered(t, p, first, 0, 0, 0)
		if s := p.View().States; s[first] != proc.Ready || s[second] != proc.Waiting {
			t.Errorf("the states are %v", s)
		}
		happens(t, p, 77, 11, "87 0 receive 0")
		answered(t, p, second, 0, 0, 0)
		happens(t, p, 88, 22, "98 0 receive 0", "109 0 receive 23")
		isAt(t, c, p, 1010, l...)
	}
}

// P34.2: receivers that wait, by priority or by arrival, where a message is stored, and how many words are answered.
func TestReceivers(t *testing.T) {
	for _, by := range []bool{false, true} {
		c := priorities(world(t,
			lines(ask(calls.Wait, 0, 0, 0, 40), ask(calls.Send, 0, 1000, 2, 0), ask(calls.Send, 0, 1002, 1, 0), ask(calls.Send, 0, 1000, 0, 0), forever),
			lines(ask(calls.Receive, 0, 1010, 9, 99), forever),
			lines(ask(calls.Receive, 0, 2003, 9, -1), forever),
			lines(ask(calls.Receive, 0, 1020, 9, 4), forever)), 9, 4, 5, 3)
		c.Tasks[2].Attr.Offset = 18
		c.Buffers = []part.Buffer{{Words: 2, Room: 1, ByPriority: by}}
		p := begun(t, c, 0)
		happens(t, p, 0, 46, "6 0 wait 0", "17 1 receive 0", "28 2 receive 0", "39 3 receive 0")
		states(t, p, proc.Waiting, proc.Waiting, proc.Waiting, proc.Ready)
		answered(t, p, 3, 24, 0, 0)
		happens(t, p, 46, 20, "55 0 send 0", "64 0 send 0")
		states(t, p, proc.Ready, proc.Ready, proc.Ready, proc.Ready)
		answered(t, p, 0, 0, 0, 0)
		if by {
			answered(t, p, 2, 2, 0, 0) // there is one word only
			answered(t, p, 1, 0, 0, 1)
			isAt(t, c, p, 1010, 3, 0)
			isAt(t, c, p, 2003, 1)
		} else {
			answered(t, p, 1, 0, 0, 2)
			answered(t, p, 2, 0, 0, 1)
			isAt(t, c, p, 1010, 1, 2)
			isAt(t, c, p, 2003, 3)
		}
		happens(t, p, 66, 8, "72 0 send 0")
		isAt(t, c, p, 1020, 0)
	}
}

// P34.2: also the process 0 is woken by who sends, and by who receives.
func TestFirstProcess(t *testing.T) {
	c := priorities(world(t, lines(ask(calls.Receive, 0, 1010, 9, -1), ask(calls.Send, 0, 1001, 1, 0), ask(calls.Send, 0, 1002, 1, -1), forever),
		lines(ask(calls.Send, 0, 1000, 2, 0), ask(calls.Receive, 0, 1020, 9, -1), ask(calls.Receive, 0, 1021, 9, -1), still)), 9, 5)
	c.Buffers = []part.Buffer{{Words: 2, Room: 1}}
	p := begun(t, c, 0)
	happens(t, p, 0, 21, "10 0 receive 0", "20 1 send 0")
	states(t, p, proc.Ready, proc.Ready)
	answered(t, p, 0, 0, 0, 2)
	isAt(t, c, p, 1010, 1, 2)
	happens(t, p, 21, 29, "29 0 send 0", "38 0 send 0", "49 1 receive 0")
	states(t, p, proc.Ready, proc.Ready)
	answered(t, p, 0, 0, 0, 0)
	isAt(t, c, p, 1020, 2, 0)
}

// ports returns a Config with a port of each kind, the in ports 0 and 2 and the out ports 1 and 3, of which 2 and 3 are
// queuing.
func ports(t *testing.T, code ...string) part.Config {
	t.Helper()
	c := world(t, lines(code...))
	c.Ports = []part.Port{
		{Words: 3, Refresh: 20, Room: 9}, {Out: true, Words: 3}, {Queue: true, Words: 3, Room: 2, Refresh: 9}, {Out: true, Queue: true, Words: 3, Room: 2},
	}
	return c
}

// P34.2: the calls of ports, each at each kind of port.
func TestPortKinds(t *testing.T) {
	for call := calls.Write; call <= calls.Get; call++ {
		for o := range 4 {
			p := begun(t, ports(t, ask(call, o, 70000, 0), forever), 0)
			want := api.ErrRights
			switch {
			case call == calls.Write && o == 1 || call == calls.Put && o == 3:
				want = api.OK
			case call == calls.Read && o == 0 || call == calls.Get && o == 2:
				want = api.ErrNone
			}
			for now := range 15 {
				if r := p.Step(now); r.Call >= 0 && r.E != want {
					t.Errorf("%s at the port %d: %d, want %d", calls.Word(call), o, r.E, want)
				}
			}
			p = begun(t, ports(t, ask(call, o, 70000, 1), forever), 0)
			if want == api.OK {
				want = api.ErrRange // the word cannot be loaded
			}
			for now := range 15 {
				if r := p.Step(now); r.Call >= 0 && r.E != want {
					t.Errorf("%s of one word at the port %d: %d, want %d", calls.Word(call), o, r.E, want)
				}
			}
			ends(t, p, 15)
		}
	}
}

// P34.2 and P34.3: write and put, and what leaves at the end of a window.
func TestOut(t *testing.T) {
	c := ports(t, ask(calls.Write, 1, 1000, 3), ask(calls.Write, 1, 1000, 4), ask(calls.Put, 3, 1000, 1), ask(calls.Write, 1, 1001, 2), ask(calls.Put, 3, 1001, 4),
		ask(calls.Put, 3, 1001, 2), ask(calls.Put, 3, 1001, 2), ask(calls.Write, 1, 1000, 0), forever)
	p := begun(t, c, 0)
	happens(t, p, 0, 9, "8 0 write 0")
	answered(t, p, 0, 0, 0, 0)
	ends(t, p.Clone(), 9, message(1, 1, 2, 3))
	happens(t, p, 9, 60, "18 0 write 2", "26 0 put 0", "34 0 write 0", "45 0 put 2", "54 0 put 0", "63 0 put 8")
	ends(t, p, 69, message(1, 2, 3), message(3, 1), message(3, 2, 3))
	ends(t, p, 69)
	happens(t, p, 69, 1, "69 0 write 0")
	ends(t, p, 1<<38, message(1))
	ends(t, p, 1<<38)
	// What was put back leaves ahead of what came later.
	c = ports(t, ask(calls.Put, 3, 1000, 1), ask(calls.Put, 3, 1000, 2), forever)
	p = begun(t, c, 0)
	happens(t, p, 0, 8, "7 0 put 0")
	l := p.End(8)
	happens(t, p, 8, 9, "16 0 put 0")
	p.Back(3, [][]uint32{l[0].Words})
	ends(t, p, 17, message(3, 1), message(3, 1, 2))
}

// P34.3: Back is for queuing out ports in the mode Normal, and as far as there is room.
func TestBack(t *testing.T) {
	c := ports(t, forever)
	p := of(t, c)
	p.Back(3, [][]uint32{{1}})
	if !p.Same(of(t, c)) {
		t.Error("what is put back before the start is kept")
	}
	p.Begin(0)
	for _, port := range []int{-1, 0, 1, 2, 4, 1 << 40, -1 << 40} {
		before := p.Clone()
		p.Back(port, [][]uint32{{1}})
		if !p.Same(before) {
			t.Errorf("Back(%d) has an effect", port)
		}
	}
	for _, l := range [][][]uint32{{{1}, {2}, {3}}, {{1}, {1, 2, 3, 4}}, nil, {}} {
		before := p.Clone()
		p.Back(3, l)
		if !p.Same(before) {
			t.Errorf("Back(%v) has an effect", l)
		}
	}
	l := [][]uint32{{1, 2}, {3}}
	p.Back(3, l)
	l[0][0] = 9
	ends(t, p, 3, message(3, 1, 2), message(3, 3))
	p = begun(t, onError(ports(t, ask(calls.Fail, 0, 3)), api.ErrForm, 6), 0)
	after(p, 0, 5)
	before := p.Clone()
	p.Back(3, [][]uint32{{1}})
	if p.View().Mode != 0 || !p.Same(before) {
		t.Error("what is put back when the partition is idle is kept")
	}
}

// P34.3: In and Room.
func TestIn(t *testing.T) {
	c := ports(t, forever)
	p := of(t, c)
	takes(t, p, 0, message(-1, 1, 2, 3, 4), api.ErrNone)
	takes(t, p, 0, message(4), api.ErrNone)
	takes(t, p, 0, message(1<<40), api.ErrNone)
	takes(t, p, 0, message(1, 1, 2, 3, 4), api.ErrRights)
	takes(t, p, 0, message(3), api.ErrRights)
	takes(t, p, 0, message(0, 1, 2, 3, 4), api.ErrMode)
	takes(t, p, 0, message(2), api.ErrMode)
	if !p.Same(of(t, c)) {
		t.Error("what was refused is there")
	}
	p.Begin(0)
	room := func(want ...int) {
		t.Helper()
		for i, n := range want {
			if got := p.Room(i - 1); got != n {
				t.Errorf("Room(%d) is %d, want %d", i-1, got, n)
			}
		}
	}
	room(0, 1, 0, 2, 0, 0)
	before := p.Clone()
	takes(t, p, 0, message(5, 1), api.ErrNone)
	takes(t, p, 0, message(1, 1), api.ErrRights)
	takes(t, p, 0, message(3, 1), api.ErrRights)
	takes(t, p, 0, message(0, 1, 2, 3, 4), api.ErrRange)
	takes(t, p, 0, message(2, 1, 2, 3, 4), api.ErrRange)
	if !p.Same(before) {
		t.Error("what was refused is there")
	}
	l := message(2, 1, 2, 3)
	takes(t, p, 0, l, api.OK)
	l.Words[1] = 9
	room(0, 1, 0, 1, 0, 0)
	takes(t, p, 0, message(2), api.OK)
	room(0, 1, 0, 0, 0, 0)
	takes(t, p, 0, message(2, 5), api.ErrLost)
	takes(t, p, 0, message(2, 1, 2, 3, 4), api.ErrRange)
	takes(t, p, 0, message(0, 1, 2, 3), api.OK)
	takes(t, p, 0, message(0), api.OK)
	room(0, 1, 0, 0, 0, 0)
}

// P34.2: read and get.
func TestReadAndGet(t *testing.T) {
	c := ports(t, ask(calls.Read, 0, 1010), ask(calls.Read, 0, 1020), ask(calls.Read, 0, 3000), forever)
	p := begun(t, c, 0)
	takes(t, p, 0, message(0, 9), api.OK)
	takes(t, p, 2, message(0, 7, 8), api.OK)
	happens(t, p, 13, 9, "21 0 read 0")
	answered(t, p, 0, 0, 1, 2)
	isAt(t, c, p, 1010, 7, 8, 0)
	happens(t, p, 22, 9, "30 0 read 0") // it is older than 20 ticks
	answered(t, p, 0, 0, 0, 2)
	isAt(t, c, p, 1020, 7, 8, 0)
	happens(t, p, 31, 9, "39 0 read 11")
	answered(t, p, 0, 11, 0, 0)
	c = ports(t, ask(calls.Get, 2, 1010), ask(calls.Get, 2, 1020), ask(calls.Get, 2, 1030), ask(calls.Get, 2, 1040), ask(calls.Get, 2, 1050), ask(calls.Get, 2, 1062), forever)
	p = begun(t, c, 0)
	takes(t, p, 0, message(2, 1, 2, 3), api.OK)
	takes(t, p, 0, message(2, 4), api.OK)
	takes(t, p, 0, message(2, 5), api.ErrLost)
	happens(t, p, 0, 9, "8 0 get 0")
	answered(t, p, 0, 0, 1, 3)
	isAt(t, c, p, 1010, 1, 2, 3, 0)
	happens(t, p, 9, 9, "17 0 get 0")
	answered(t, p, 0, 0, 0, 1)
	isAt(t, c, p, 1020, 4, 0)
	happens(t, p, 18, 9, "26 0 get 9")
	answered(t, p, 0, 9, 0, 0)
	takes(t, p, 27, message(2, 1, 2, 3), api.OK)
	takes(t, p, 27, message(2), api.OK)
	happens(t, p, 27, 9, "35 0 get 0")
	takes(t, p, 36, message(2, 6, 7, 8), api.OK)
	takes(t, p, 36, message(2, 5), api.ErrLost)
	after(p, 36, 9)
	answered(t, p, 0, 0, 1, 0) // the empty message
	happens(t, p, 45, 9, "53 0 get 2")
	answered(t, p, 0, 2, 0, 0)
	isAt(t, c, p, 1062, 6, 7)
	if p.Room(2) != 2 {
		t.Errorf("there is room for %d", p.Room(2))
	}
}

// P34.2: a message that cannot be stored is gone, and its words are not counted; the value is the usual one.
func TestNoPlaceForMessage(t *testing.T) {
	p := begun(t, ports(t, ask(calls.Read, 0, 3001), forever), 0)
	takes(t, p, 0, message(0, 5), api.OK)
	happens(t, p, 0, 9, "8 0 read 11")
	answered(t, p, 0, 11, 1, 0)
	c := ports(t, ask(calls.Get, 2, 1000), ask(calls.Get, 2, 3001), ask(calls.Get, 2, 1000), forever)
	c.Ports[2].Room = 1
	p = begun(t, c, 0)
	takes(t, p, 0, message(2, 5), api.OK)
	after(p, 0, 9)
	takes(t, p, 9, message(2, 6), api.OK)
	takes(t, p, 9, message(2, 7), api.ErrLost)
	happens(t, p, 9, 9, "17 0 get 11")
	answered(t, p, 0, 11, 1, 0)
	happens(t, p, 18, 9, "26 0 get 9")
	answered(t, p, 0, 9, 0, 0)
}
