package channel_test

import (
	"math/rand"
	"slices"
	"testing"

	"monocoque/api"
	"monocoque/channel"
)

// isEnd is the definition of an end.
func isEnd(e end) bool {
	return e == outside || e.Part >= 0 && e.Part <= 15 && e.Port >= 0 && e.Port <= 15
}

// faults are the conditions on a route, in order, after those that come before it.
func faults(before []route, r route) api.Errno {
	all := append([]end{r.From}, r.To...)
	var earlier []end
	for _, b := range before {
		earlier = append(append(earlier, b.From), b.To...)
	}
	count := func(f func(end) bool) (n int) {
		for _, e := range all {
			if f(e) {
				n++
			}
		}
		return n
	}
	switch {
	case len(r.To) == 0:
		return api.ErrNone
	case len(r.To) > 8:
		return api.ErrFull
	case count(isEnd) < len(all):
		return api.ErrRange
	case count(func(e end) bool { return e == outside }) > 1:
		return api.ErrArg
	case r.Queue && len(r.To) > 1:
		return api.ErrOrder
	}
	for i, e := range all {
		if e != outside && slices.Contains(append(slices.Clone(earlier), all[:i]...), e) {
			return api.ErrTwice
		}
	}
	return api.OK
}

// wants is the error of New by the definition.
func wants(l []route) api.Errno {
	if len(l) > 32 {
		return api.ErrFull
	}
	for i, r := range l {
		if e := faults(l[:i], r); e != api.OK {
			return e
		}
	}
	return api.OK
}

// some returns an end of few partitions, seldom outside or none.
func some(dice *rand.Rand) end {
	switch dice.Intn(12) {
	case 0:
		return outside
	case 1:
		if dice.Intn(3) == 0 {
			return wrong()[dice.Intn(len(wrong()))]
		}
	}
	return end{dice.Intn(16), dice.Intn(16)}
}

// mixed returns some routes, with a fault now and then.
func mixed(dice *rand.Rand) (l []route) {
	for range dice.Intn(6) {
		r := sampling(some(dice))
		for range 1 + dice.Intn(3) {
			r.To = append(r.To, some(dice))
		}
		switch dice.Intn(12) {
		case 0:
			r.Queue = true
		case 1, 2, 3:
			r.Queue, r.To = true, r.To[:1]
		case 4:
			r.To = r.To[:dice.Intn(2)]
		case 5:
			if dice.Intn(4) == 0 {
				r.To = slices.Repeat(r.To, 9)
			}
		}
		l = append(l, r)
	}
	return l
}

// right returns the routes of a list that have no fault.
func right(l []route) (kept []route) {
	for _, r := range l {
		if faults(kept, r) == api.OK {
			kept = append(kept, r)
		}
	}
	return kept
}

// P28.1: routes of all sorts, against the definition.
func TestNewAgainstTheDefinition(t *testing.T) {
	dice := rand.New(rand.NewSource(28))
	met := map[api.Errno]int{}
	for range 20000 {
		l := mixed(dice)
		want := wants(l)
		met[want]++
		if n, e := channel.New(l); e != want || (n != nil) != (e == api.OK) {
			t.Fatalf("New(%v) = %v, %d, want %d", l, n, e, want)
		}
	}
	for _, e := range []api.Errno{api.OK, api.ErrNone, api.ErrFull, api.ErrRange, api.ErrArg, api.ErrOrder, api.ErrTwice} {
		if met[e] < 50 {
			t.Errorf("the error %d was met %d times", e, met[e])
		}
	}
}

// flow is the definition of a flow by one route.
func flow(l []route, a, b int) bool {
	return slices.ContainsFunc(l, func(r route) bool {
		return slices.ContainsFunc(r.To, func(to end) bool {
			return r.From.Part == a && to.Part == b || r.Queue && r.From.Part == b && to.Part == a
		})
	})
}

// reachable returns the partitions to which one comes by a flow or several.
func reachable(l []route, a int) map[int]bool {
	seen := map[int]bool{}
	for todo := []int{a}; len(todo) > 0; todo = todo[1:] {
		for b := range 16 {
			if !seen[b] && flow(l, todo[0], b) {
				seen[b] = true
				todo = append(todo, b)
			}
		}
	}
	return seen
}

// moved is the definition of Move.
func moved(l []route, all []goods) (out []goods) {
	for _, g := range all {
		for _, r := range l {
			if g.At == outside || g.At != r.From {
				continue
			}
			for _, to := range r.To {
				out = append(out, goods{to, g.Message})
			}
		}
	}
	return out
}

// P28.2 to P28.4: routes of all sorts, against the definition.
func TestNetsAgainstTheDefinition(t *testing.T) {
	dice := rand.New(rand.NewSource(4))
	for range 300 {
		l := right(slices.Concat(mixed(dice), mixed(dice), mixed(dice), mixed(dice)))
		n := of(t, l...)
		has(t, n, l...)
		for a := range 16 {
			reached := reachable(l, a)
			for b := range 16 {
				if n.Flows(a, b) != flow(l, a, b) || n.Reach(a, b) != reached[b] {
					t.Fatalf("Flows(%d, %d) = %v, Reach = %v, by %v", a, b, n.Flows(a, b), n.Reach(a, b), l)
				}
			}
		}
		var all []goods
		for range 20 {
			e := some(dice)
			if len(l) > 0 && dice.Intn(2) == 0 {
				e = l[dice.Intn(len(l))].From
			}
			all = append(all, goods{e, []uint32{dice.Uint32(), dice.Uint32()}[:dice.Intn(3)]})
			leads(t, n, e, ats(moved(l, all[len(all)-1:]))...)
		}
		moves(t, n, all, moved(l, all)...)
	}
}

// ats returns where goods are.
func ats(l []goods) (out []end) {
	for _, g := range l {
		out = append(out, g.At)
	}
	return out
}

// P28.5: a message that moves from one partition to another moves where information can flow.
func TestConsequence(t *testing.T) {
	dice := rand.New(rand.NewSource(5))
	tried := 0
	for range 200 {
		n := of(t, right(slices.Concat(mixed(dice), mixed(dice)))...)
		for _, e := range ends() {
			for _, g := range n.Move([]goods{{At: e}}) {
				if g.At == outside {
					continue
				}
				if tried++; !n.Flows(e.Part, g.At.Part) || !n.Reach(e.Part, g.At.Part) {
					t.Errorf("a message moves from %v to %v, where nothing can flow", e, g.At)
				}
				comes(t, n, g.At, e, true)
			}
		}
	}
	if tried < 500 {
		t.Error("nothing was tried:", tried)
	}
}
