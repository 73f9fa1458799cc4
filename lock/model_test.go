package lock_test

import (
	"cmp"
	"math/rand"
	"slices"
	"testing"

	"monocoque/api"
	"monocoque/lock"
)

const nobody = -1

// ask is an id that waits for a lock.
type ask struct{ id, base, lock int }

// model is locks by the definition: the owner of each, and all who wait as they came.
type model struct {
	ceilings, owners []int
	asks             []ask
}

func newModel(ceilings []int) *model {
	return &model{ceilings: slices.Clone(ceilings), owners: slices.Repeat([]int{nobody}, len(ceilings))}
}

func (m *model) waits(id int) bool {
	return slices.ContainsFunc(m.asks, func(a ask) bool { return a.id == id })
}

func (m *model) line(n int) []int {
	var l []ask
	for _, a := range m.asks {
		if a.lock == n {
			l = append(l, a)
		}
	}
	slices.SortStableFunc(l, func(a, b ask) int { return cmp.Compare(b.base, a.base) })
	var ids []int
	for _, a := range l {
		ids = append(ids, a.id)
	}
	return ids
}

func (m *model) take(id, base, n int) (bool, api.Errno) {
	if id < 0 || base < 1 || base > 63 {
		return false, api.ErrRange
	}
	if n < 0 || n >= len(m.ceilings) {
		return false, api.ErrNone
	}
	if m.waits(id) {
		return false, api.ErrState
	}
	if m.owners[n] == id {
		return false, api.ErrTwice
	}
	if base > m.ceilings[n] {
		return false, api.ErrRights
	}
	if m.owners[n] == nobody {
		m.owners[n] = id
		return true, api.OK
	}
	m.asks = append(m.asks, ask{id, base, n})
	return false, api.OK
}

func (m *model) leave(id int) bool {
	did := m.waits(id)
	m.asks = slices.DeleteFunc(m.asks, func(a ask) bool { return a.id == id })
	return did
}

// pass gives a lock to the first one of its line, if there is one.
func (m *model) pass(n int) []int {
	l := m.line(n)
	if len(l) == 0 {
		m.owners[n] = nobody
		return nil
	}
	m.owners[n] = l[0]
	m.leave(l[0])
	return l[:1]
}

func (m *model) give(id, n int) ([]int, api.Errno) {
	if n < 0 || n >= len(m.ceilings) {
		return nil, api.ErrNone
	}
	if m.waits(id) {
		return nil, api.ErrState
	}
	if id < 0 || m.owners[n] != id {
		return nil, api.ErrRights
	}
	return m.pass(n), api.OK
}

func (m *model) drop(id int) []int {
	m.leave(id)
	var next []int
	for n, owner := range m.owners {
		if owner == id && id >= 0 {
			next = append(next, m.pass(n)...)
		}
	}
	return next
}

// matches tells whether locks are what the model is, by each method that tells of them.
func (m *model) matches(t *testing.T, l *lock.Locks) {
	t.Helper()
	for n := -1; n <= len(m.ceilings); n++ {
		if n < 0 || n == len(m.ceilings) || m.owners[n] == nobody {
			free(t, l, n)
			continue
		}
		owned(t, l, n, m.owners[n])
		line(t, l, n, m.line(n)...)
	}
	for id := -1; id < 9; id++ {
		var held []int
		top := 0
		for n, owner := range m.owners {
			if owner == id && id >= 0 {
				held = append(held, n)
				top = max(top, m.ceilings[n])
			}
		}
		raised(t, l, id, top, held...)
	}
}

// step makes a call with numbers that mostly may be, on both.
func (m *model) step(t *testing.T, dice *rand.Rand, l *lock.Locks) {
	t.Helper()
	id, base, n := dice.Intn(9)-dice.Intn(2), 1+dice.Intn(5), dice.Intn(len(m.ceilings)+1)-dice.Intn(2)
	if dice.Intn(30) == 0 {
		base = wrongPriorities[dice.Intn(len(wrongPriorities))]
	}
	if dice.Intn(30) == 0 {
		n = wrongLocks[dice.Intn(len(wrongLocks))]
	}
	switch dice.Intn(12) {
	case 0:
		if got, want := l.Leave(id), m.leave(id); got != want {
			t.Fatalf("Leave(%d) = %v", id, got)
		}
	case 1:
		if got, want := l.Drop(id), m.drop(id); !slices.Equal(got, want) {
			t.Fatalf("Drop(%d) = %v, want %v", id, got, want)
		}
	case 2, 3, 4:
		got, e := l.Give(id, n)
		if want, f := m.give(id, n); e != f || !slices.Equal(got, want) {
			t.Fatalf("Give(%d, %d) = %v, %d, want %v, %d", id, n, got, e, want, f)
		}
	default:
		got, e := l.Take(id, base, n)
		if want, f := m.take(id, base, n); e != f || got != want {
			t.Fatalf("Take(%d, %d, %d) = %v, %d, want %v, %d", id, base, n, got, e, want, f)
		}
	}
}

// P21.1 to P21.5: any calls in any order, against the definition.
func TestAgainstTheDefinition(t *testing.T) {
	dice := rand.New(rand.NewSource(21))
	for range 600 {
		ceilings := make([]int, 1+dice.Intn(5))
		for i := range ceilings {
			ceilings[i] = 2 + dice.Intn(5)
		}
		l, m := of(t, ceilings...), newModel(ceilings)
		for range 150 {
			before, was := l.Clone(), *m
			was.owners, was.asks = slices.Clone(m.owners), slices.Clone(m.asks)
			m.step(t, dice, l)
			m.matches(t, l)
			same := slices.Equal(was.owners, m.owners) && slices.Equal(was.asks, m.asks)
			if same && !l.Same(before) {
				t.Fatal("nothing happened, and yet they are not the same")
			}
			was.matches(t, before)
			if t.Failed() {
				t.FailNow()
			}
			if dice.Intn(8) == 0 {
				l = l.Clone()
			}
		}
	}
}

// P21.5: each id that waits gets the lock once all ahead of it have given it back, and nobody else gets it.
func TestEveryoneGetsIt(t *testing.T) {
	dice := rand.New(rand.NewSource(5))
	for range 200 {
		l := of(t, 9)
		takes(t, l, 0, 1, 0)
		for id := 1; id <= dice.Intn(30); id++ {
			waits(t, l, id, 1+dice.Intn(9), 0)
		}
		owner, order := 0, l.Waiting(0)
		for _, id := range order {
			owned(t, l, 0, owner)
			if dice.Intn(2) == 0 {
				gives(t, l, owner, 0, id)
			} else if got := l.Drop(owner); !slices.Equal(got, []int{id}) {
				t.Fatalf("Drop(%d) = %v, want %d", owner, got, id)
			}
			owner = id
		}
		gives(t, l, owner, 0)
		free(t, l, 0)
	}
}

// cycle reports whether an id waits for itself, over the owners of what is waited for.
func cycle(l *lock.Locks, locks, ids int) bool {
	goal := map[int]int{}
	for n := range locks {
		owner, _ := l.Owner(n)
		for _, id := range l.Waiting(n) {
			goal[id] = owner
		}
	}
	for id := range ids {
		at, waits := id, true
		for range ids + 1 {
			if at, waits = goal[at]; !waits {
				break
			}
		}
		if waits {
			return true
		}
	}
	return false
}

// P21.5: who asks for greater numbers only is never in a cycle; without this rule there are cycles.
func TestNoCycle(t *testing.T) {
	const locks, ids = 5, 6
	dice := rand.New(rand.NewSource(9))
	cycles, waited := 0, 0
	for _, inOrder := range []bool{true, false} {
		for range 300 {
			l := of(t, slices.Repeat([]int{9}, locks)...)
			for range 80 {
				id, n := dice.Intn(ids), dice.Intn(locks)
				held := l.Held(id)
				if inOrder && len(held) > 0 && n <= slices.Max(held) {
					continue
				}
				if got, e := l.Take(id, 1+dice.Intn(9), n); e == api.OK && !got {
					waited++
				}
				if dice.Intn(3) == 0 {
					l.Give(id, n)
				}
				if cycle(l, locks, ids) {
					cycles++
					if inOrder {
						t.Fatal("a cycle")
					}
				}
			}
		}
	}
	if cycles == 0 || waited < 1000 {
		t.Error("nothing was tried:", cycles, waited)
	}
}

// one is a process for T9: it is ready or not, and asks for locks while it runs.
type one struct {
	base  int
	ready bool
}

// first returns the ready process of the greatest current priority; of equals the one that is raised, or last.
func first(l *lock.Locks, all []one, last int) int {
	best, top := nobody, 0
	for id, p := range all {
		raised, _ := l.Raised(id)
		now := 3 * max(p.base, raised)
		if raised >= p.base { // whoever has a lock was placed ahead of its equals
			now++
		}
		if id == last {
			now++
		}
		if p.ready && now > top {
			best, top = id, now
		}
	}
	return best
}

// T9: if the process of the greatest priority runs, raised to the ceilings of its locks, and does not rest while it has
// one, no process ever waits for a lock.
func TestWithCeilingsNobodyWaits(t *testing.T) {
	dice := rand.New(rand.NewSource(99))
	taken, refused := 0, 0
	for range 400 {
		l := of(t, 2, 3, 4, 5)
		all := make([]one, 6)
		for id := range all {
			all[id].base = 1 + dice.Intn(5)
		}
		last := nobody
		for range 150 {
			all[dice.Intn(len(all))].ready = true
			last = first(l, all, last)
			n, held := dice.Intn(4), l.Held(last)
			switch {
			case dice.Intn(2) == 0:
				got, e := l.Take(last, all[last].base, n)
				if e == api.OK && !got {
					t.Fatalf("%d of %v waits for %d", last, all, n)
				}
				if got {
					taken++
				} else if e == api.ErrRights {
					refused++
				}
			case len(held) > 0:
				if next, e := l.Give(last, held[len(held)-1]); e != api.OK || len(next) > 0 {
					t.Fatal(next, e)
				}
			default:
				all[last].ready = false
			}
		}
	}
	if taken < 1000 || refused < 1000 {
		t.Error("nothing was tried:", taken, refused)
	}
}
