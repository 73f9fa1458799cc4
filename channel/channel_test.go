package channel_test

import (
	"slices"
	"testing"

	"monocoque/api"
	"monocoque/channel"
)

// The chapter's example.
func TestExample(t *testing.T) {
	n := of(t, queuing(end{1, 0}, end{3, 2}))
	if !n.Flows(1, 3) || !n.Flows(3, 1) {
		t.Error("information flows to the goal, and back")
	}
}

// P28.1: a net has the routes that it was made of, in order, as they are.
func TestNew(t *testing.T) {
	for _, l := range [][]route{
		nil, {},
		{sampling(end{0, 0}, end{0, 1})},
		{queuing(end{15, 15}, end{0, 0})},
		{sampling(end{1, 2}, end{3, 4}, end{1, 3}, end{3, 1}), queuing(end{1, 1}, end{4, 4}), sampling(end{0, 15}, end{15, 0})},
		{sampling(end{3, 4}, outside), sampling(outside, end{3, 5}), queuing(outside, end{3, 6}), queuing(end{3, 7}, outside)},
		{sampling(end{3, 3}, end{4, 4}), sampling(end{4, 3}, end{3, 4})}, // mirrored ends are different ones
		{sampling(end{5, 1}, end{5, 9}, outside, end{5, 8})},
	} {
		has(t, of(t, l...), l...)
	}
	if channel.Outside != -1 {
		t.Error("Outside is", channel.Outside)
	}
}

// P28.1: how many routes there may be; that there are too many is listed before all other errors.
func TestHowManyRoutes(t *testing.T) {
	var l []route
	for _, e := range ends()[:100] {
		if len(l) <= 32 {
			has(t, of(t, l...), l...)
		} else {
			refused(t, api.ErrFull, l...)
		}
		l = append(l, sampling(e, outside))
	}
	refused(t, api.ErrFull, make([]route, 33)...)
	refused(t, api.ErrFull, slices.Repeat([]route{queuing(outside, outside, end{-2, 0})}, 33)...)
	refused(t, api.ErrNone, make([]route, 32)...)
}

// P28.1: how many goals a route may have.
func TestHowManyGoals(t *testing.T) {
	for n := range 40 {
		r := sampling(end{0, 1}, ends()[64:64+n]...)
		switch {
		case n == 0:
			refused(t, api.ErrNone, r)
			r.To = []end{}
			refused(t, api.ErrNone, r)
		case n <= 8:
			has(t, of(t, r), r)
		default:
			refused(t, api.ErrFull, r)
		}
	}
}

// P28.1: what is an end, as a source and at each place of the goals.
func TestEnds(t *testing.T) {
	good := ends()
	for _, e := range append(wrong(), good...) {
		is := slices.Contains(good, e)
		for place := range 9 {
			r := sampling(end{3, 0}, end{4, 1}, end{5, 2}, end{6, 3}, end{7, 4}, end{8, 5}, end{9, 6}, end{10, 7}, end{11, 8})
			if slices.Contains(append(r.To, r.From), e) {
				continue
			}
			if place == 8 {
				r.From = e
			} else {
				r.To[place] = e
			}
			if is {
				has(t, of(t, r), r)
			} else {
				refused(t, api.ErrRange, r)
			}
		}
	}
}

// P28.1: a route has at most one end that is outside; a net may have any number of such routes.
func TestOutside(t *testing.T) {
	p, q := end{0, 0}, end{1, 0}
	refused(t, api.ErrArg, sampling(outside, outside))
	refused(t, api.ErrArg, sampling(outside, p, outside))
	refused(t, api.ErrArg, sampling(outside, outside, p))
	refused(t, api.ErrArg, sampling(p, outside, outside))
	refused(t, api.ErrArg, sampling(p, outside, q, outside))
	refused(t, api.ErrArg, sampling(outside, p, q, outside))
	of(t, sampling(outside, p, q))
	of(t, sampling(p, outside, q))
	of(t, sampling(p, q, outside))
	var l []route
	for i, e := range ends()[:32] {
		l = append(l, route{From: outside, To: []end{e}, Queue: i%4 < 2})
		if i%2 == 0 {
			l[i] = route{From: e, To: []end{outside}, Queue: i%4 < 2}
		}
	}
	has(t, of(t, l...), l...)
}

// P28.1: a queuing route has one goal.
func TestQueuingRoutes(t *testing.T) {
	for n := 1; n <= 8; n++ {
		r := queuing(end{0, 1}, ends()[64:64+n]...)
		if n == 1 {
			has(t, of(t, r), r)
			continue
		}
		refused(t, api.ErrOrder, r)
		r.From = outside
		refused(t, api.ErrOrder, r)
		r.From, r.To[n-1] = end{0, 1}, outside
		refused(t, api.ErrOrder, r)
	}
}

// P28.1: a port is an end once, wherever.
func TestTwice(t *testing.T) {
	a, b, c, d := end{0, 0}, end{0, 1}, end{1, 0}, end{1, 1}
	for _, l := range [][]route{
		{sampling(a, a)},
		{queuing(a, a)},
		{sampling(a, b, a)},
		{sampling(a, b, b)},
		{sampling(a, b, c, d, outside, b)},
		{sampling(outside, b, c, b)},
		{sampling(a, b), sampling(a, c)},
		{sampling(a, b), sampling(b, c)},
		{sampling(a, b), sampling(c, b)},
		{sampling(a, b), queuing(c, a)},
		{queuing(a, b), queuing(c, b)},
		{sampling(a, b, c), sampling(d, c)},
		{sampling(a, b, c), sampling(outside, c)},
		{sampling(a, outside), sampling(a, outside)},
		{sampling(outside, a), sampling(a, outside)},
		{sampling(a, outside), sampling(outside, a)},
		{sampling(a, b), sampling(c, d), sampling(outside, b)},
	} {
		refused(t, api.ErrTwice, l...)
	}
	of(t, sampling(a, b), sampling(c, d))
	of(t, sampling(a, c), queuing(d, b))
}

// P28.1: the errors of a route, in their order: each route here has all faults from one on that go together.
func TestOrderOfErrors(t *testing.T) {
	good, p, bad := sampling(end{7, 7}, end{7, 8}), end{7, 7}, end{16, 0}
	for _, c := range []struct {
		want api.Errno
		r    route
	}{
		{api.ErrNone, queuing(bad)},
		{api.ErrNone, queuing(outside)},
		{api.ErrNone, queuing(p)},
		{api.ErrFull, queuing(bad, slices.Repeat([]end{bad}, 9)...)},
		{api.ErrFull, queuing(outside, slices.Repeat([]end{outside}, 9)...)},
		{api.ErrFull, queuing(p, slices.Repeat([]end{p}, 9)...)},
		{api.ErrRange, queuing(outside, outside, p, p, bad)},
		{api.ErrRange, queuing(bad, outside, outside, p, p)},
		{api.ErrRange, queuing(p, p, bad)},
		{api.ErrArg, queuing(outside, p, p, outside)},
		{api.ErrArg, queuing(p, outside, p, outside)},
		{api.ErrArg, sampling(p, p, outside, outside)},
		{api.ErrOrder, queuing(p, p, p)},
		{api.ErrOrder, queuing(outside, p, p)},
		{api.ErrTwice, queuing(p, end{0, 0})},
		{api.ErrTwice, sampling(end{0, 0}, p)},
	} {
		refused(t, c.want, good, c.r)
		refused(t, c.want, good, c.r, sampling(bad))
		refused(t, c.want, c.r, good, c.r) // twice where it is the only one at first
	}
}

// P28.1: the first route that has an error counts, whichever error that is.
func TestTheFirstRouteCounts(t *testing.T) {
	good := []route{sampling(end{7, 7}, end{7, 8}), queuing(outside, end{9, 0})}
	faults := map[api.Errno]route{
		api.ErrNone:  sampling(end{1, 1}),
		api.ErrFull:  sampling(end{1, 1}, make([]end, 9)...),
		api.ErrRange: sampling(end{1, 1}, end{1, 16}),
		api.ErrArg:   sampling(outside, outside),
		api.ErrOrder: queuing(end{1, 1}, end{1, 2}, end{1, 3}),
		api.ErrTwice: sampling(end{1, 1}, end{7, 7}),
	}
	for want, first := range faults {
		for _, later := range faults {
			refused(t, want, slices.Concat(good, []route{first, later})...)
			refused(t, want, good[0], good[1], first, sampling(end{5, 5}, end{5, 6}), later)
		}
	}
}

// P28.2: goals and sources, for each end.
func TestGoalsAndSource(t *testing.T) {
	l := []route{
		sampling(end{1, 2}, end{3, 4}, end{1, 3}, outside, end{3, 1}),
		queuing(end{3, 2}, end{2, 1}),
		sampling(outside, end{4, 4}, end{4, 3}),
		queuing(outside, end{0, 0}),
		queuing(end{2, 3}, outside),
		sampling(end{15, 15}, end{15, 14}),
	}
	n := of(t, l...)
	goals, sources := map[end][]end{}, map[end]end{}
	for _, r := range l {
		if r.From != outside {
			goals[r.From] = r.To
		}
		for _, to := range r.To {
			if to != outside {
				sources[to] = r.From
			}
		}
	}
	for _, e := range slices.Concat(ends(), wrong(), []end{outside}) {
		leads(t, n, e, goals[e]...)
		from, is := sources[e]
		comes(t, n, e, from, is)
	}
	comes(t, n, end{4, 3}, outside, true)
	comes(t, n, end{1, 2}, end{}, false)
	has(t, n, l...)
}

// P28.2: a net without routes.
func TestNoRoutes(t *testing.T) {
	n := of(t)
	for _, e := range slices.Concat(ends(), wrong(), []end{outside}) {
		leads(t, n, e)
		comes(t, n, e, end{}, false)
		moves(t, n, []goods{{e, []uint32{1}}})
	}
	has(t, n)
	flows(t, n)
	reaches(t, n)
}

// P28.3: messages are moved one after another, each to all goals, those at other ends to none.
func TestMove(t *testing.T) {
	a, b, c, d, e := end{0, 0}, end{1, 0}, end{2, 0}, end{0, 1}, end{1, 1}
	n := of(t, sampling(a, c, b, outside), queuing(d, e), sampling(outside, end{3, 3}))
	one, two := []uint32{1, 2}, []uint32{3}
	moves(t, n, nil)
	moves(t, n, []goods{})
	moves(t, n, []goods{{a, one}}, goods{c, one}, goods{b, one}, goods{outside, one})
	moves(t, n, []goods{{d, one}}, goods{e, one})
	moves(t, n, []goods{{d, nil}, {a, []uint32{}}}, goods{e, nil}, goods{c, nil}, goods{b, nil}, goods{outside, nil})
	moves(t, n, []goods{{d, two}, {a, two}, {d, one}},
		goods{e, two}, goods{c, two}, goods{b, two}, goods{outside, two}, goods{e, one})
	moves(t, n, []goods{{d, one}, {d, one}}, goods{e, one}, goods{e, one})
	for _, x := range append(wrong(), outside, b, c, e, end{3, 3}, end{0, 2}) {
		moves(t, n, []goods{{x, one}, {d, two}, {x, two}}, goods{e, two})
	}
	long := slices.Repeat([]uint32{7}, 1000)
	moves(t, n, []goods{{d, long}}, goods{e, long})
	many := slices.Repeat([]goods{{d, two}}, 1000)
	moves(t, n, many, slices.Repeat([]goods{{e, two}}, 1000)...)
}

// P28.4: information flows from a source to each goal; along a queuing route back as well.
func TestFlows(t *testing.T) {
	flows(t, of(t, sampling(end{1, 0}, end{3, 2})), pair{1, 3})
	flows(t, of(t, queuing(end{1, 0}, end{3, 2})), pair{1, 3}, pair{3, 1})
	flows(t, of(t, sampling(end{0, 3}, end{15, 2}, end{4, 2}, outside)), pair{0, 15}, pair{0, 4})
	flows(t, of(t, sampling(end{2, 0}, end{2, 1})), pair{2, 2})
	flows(t, of(t, queuing(end{15, 0}, end{15, 1})), pair{15, 15})
	flows(t, of(t, queuing(end{0, 0}, end{0, 1})), pair{0, 0})
	flows(t, of(t, sampling(outside, end{0, 1}, end{1, 1}), queuing(outside, end{2, 2})))
	flows(t, of(t, sampling(end{0, 1}, outside), queuing(end{1, 1}, outside)))
	flows(t, of(t, sampling(end{0, 0}, end{1, 0}), sampling(end{0, 1}, end{1, 1}), queuing(end{2, 0}, end{0, 2})),
		pair{0, 1}, pair{2, 0}, pair{0, 2})
}

// P28.4: routes one after another, each from a partition to the next one.
func TestReach(t *testing.T) {
	reaches(t, of(t, sampling(end{1, 0}, end{3, 2})), pair{1, 3})
	reaches(t, of(t, sampling(end{1, 0}, end{2, 0}), sampling(end{2, 1}, end{3, 0})), pair{1, 2}, pair{2, 3}, pair{1, 3})
	reaches(t, of(t, sampling(end{2, 1}, end{3, 0}), sampling(end{1, 0}, end{2, 0})), pair{1, 2}, pair{2, 3}, pair{1, 3})
	reaches(t, of(t, sampling(end{1, 0}, end{2, 0}), sampling(end{3, 1}, end{2, 1})), pair{1, 2}, pair{3, 2})
	reaches(t, of(t, sampling(end{2, 0}, end{2, 1})), pair{2, 2})
	reaches(t, of(t, sampling(end{0, 0}, end{1, 0}), sampling(end{1, 1}, end{0, 1})),
		pair{0, 1}, pair{1, 0}, pair{0, 0}, pair{1, 1}) // there, and back by another route
	reaches(t, of(t, sampling(end{4, 0}, end{5, 0}, end{6, 0}), queuing(end{7, 0}, end{6, 1})),
		pair{4, 5}, pair{4, 6}, pair{4, 7}, pair{6, 7}, pair{7, 6}, pair{6, 6}, pair{7, 7})
}

// P28.4: the outside is no partition, by way of which something flows.
func TestNotByWayOfOutside(t *testing.T) {
	n := of(t, sampling(end{1, 0}, outside), sampling(outside, end{2, 0}), queuing(end{3, 0}, outside), queuing(outside, end{4, 0}))
	flows(t, n)
	reaches(t, n)
}

// P28.4: all partitions in a row, in whichever order the routes come.
func TestLongWays(t *testing.T) {
	var l []route
	var want []pair
	for a := range 16 {
		if a > 0 {
			l = append(l, sampling(end{a - 1, 0}, end{a, 1}))
		}
		for b := range a {
			want = append(want, pair{b, a})
		}
	}
	reaches(t, of(t, l...), want...)
	slices.Reverse(l)
	reaches(t, of(t, l...), want...)
	l = append(l, sampling(end{15, 0}, end{0, 1}))
	for a := range 16 {
		for b := range 16 {
			want = append(want, pair{a, b})
		}
	}
	reaches(t, of(t, l...), want...)
}

// P28.5: routes that were passed and all that was returned are the caller's.
func TestMemoryIsTheCallers(t *testing.T) {
	to := []end{{1, 0}, {2, 0}, {9, 9}}
	l := []route{sampling(end{0, 0}, to[:2]...), queuing(end{0, 1}, end{1, 1})}
	n := of(t, l...)
	if l[0].From != (end{0, 0}) || !slices.Equal(to, []end{{1, 0}, {2, 0}, {9, 9}}) {
		t.Error("what was passed changes:", l, to)
	}
	spoil(to)
	spoil(l)
	want := []route{sampling(end{0, 0}, end{1, 0}, end{2, 0}), queuing(end{0, 1}, end{1, 1})}
	intact := func() {
		t.Helper()
		has(t, n, want...)
		leads(t, n, end{0, 0}, end{1, 0}, end{2, 0})
		comes(t, n, end{2, 0}, end{0, 0}, true)
		moves(t, n, []goods{{end{0, 0}, nil}}, goods{At: end{1, 0}}, goods{At: end{2, 0}})
		flows(t, n, pair{0, 1}, pair{1, 0}, pair{0, 2})
	}
	intact()
	for _, r := range n.Routes() {
		spoil(r.To)
	}
	intact()
	spoil(n.Routes())
	intact()
	spoil(n.Goals(end{0, 0}))
	intact()
}

// P28.5: each message that is moved is its own.
func TestMessagesAreTheCallers(t *testing.T) {
	n := of(t, sampling(end{0, 0}, end{1, 0}, end{2, 0}))
	m := []uint32{5, 6, 7}
	l := []goods{{end{0, 0}, m[:2]}, {end{4, 4}, m}}
	got := n.Move(l)
	if !slices.Equal(m, []uint32{5, 6, 7}) || !sameGoods(l[0], goods{end{0, 0}, []uint32{5, 6}}) || !sameGoods(l[1], goods{end{4, 4}, m}) {
		t.Error("what was passed changes:", l)
	}
	spoil(m)
	spoil(l)
	if len(got) != 2 || !slices.Equal(got[0].Message, []uint32{5, 6}) {
		t.Fatal("what was moved changes:", got)
	}
	spoil(got[0].Message)
	if !slices.Equal(got[1].Message, []uint32{5, 6}) {
		t.Error("two messages share memory")
	}
}

// No net.
func TestNil(t *testing.T) {
	var n *channel.Net
	has(t, n)
	for _, e := range slices.Concat(ends(), wrong(), []end{outside}) {
		leads(t, n, e)
		comes(t, n, e, end{}, false)
	}
	moves(t, n, nil)
	moves(t, n, []goods{{At: end{0, 0}}})
	flows(t, n)
	reaches(t, n)
}
