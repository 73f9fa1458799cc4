package life_test

import (
	"math"
	"testing"

	"monocoque/api"
	"monocoque/book"
	"monocoque/life"
)

// The chapter's example.
func TestExample(t *testing.T) {
	l := of(t, 1)
	runs(t, l)
	restarts(t, l, 4, 2)
	runs(t, l)
	ends(t, l, api.ErrFull, 5)
	refuses(t, l, api.ErrMode, 5)
}

// The numbers of the modes, and those of book's actions.
func TestNumbers(t *testing.T) {
	if life.Idle != 0 || life.Cold != 1 || life.Warm != 2 || life.Normal != 3 {
		t.Error("a mode has another number")
	}
	if book.WarmStart != warmStart || book.ColdStart != coldStart || book.Halt != halt {
		t.Error("an action has another number")
	}
}

// P32.1: how many restarts may be permitted.
func TestNew(t *testing.T) {
	for n := 0; n <= 1000; n++ {
		is(t, of(t, n), life.Cold, 0, n)
	}
	for _, n := range []int{math.MinInt, -1 << 32, -1000, -1, 1001, 1002, 1024, 2000, 1 << 16, 1 << 32, 1<<32 + 1, math.MaxInt} {
		if l, e := life.New(n); l != nil || e != api.ErrArg {
			t.Errorf("New(%d) = %v, %d, want ErrArg", n, l, e)
		}
	}
	a, b := of(t, 3), of(t, 3)
	runs(t, a)
	is(t, b, life.Cold, 0, 3)
}

// P32.2: each action in each mode.
func TestDo(t *testing.T) {
	cold, warm, normal := []int{}, []int{0, warmStart}, []int{0}
	for _, c := range []struct {
		before              []int
		mode, warmly, colds int
	}{
		{cold, life.Cold, life.Cold, life.Cold},
		{warm, life.Warm, life.Warm, life.Cold},
		{normal, life.Normal, life.Warm, life.Cold},
	} {
		if got := after(t, 5, c.before...).Mode(); got != c.mode {
			t.Fatalf("the mode is %d, want %d", got, c.mode)
		}
		restarts(t, after(t, 5, c.before...), warmStart, c.warmly)
		restarts(t, after(t, 5, c.before...), coldStart, c.colds)
		ends(t, after(t, 5, c.before...), api.OK, halt)
		for _, a := range noActions {
			refuses(t, after(t, 5, c.before...), api.ErrArg, a)
		}
	}
}

// P32.2: a start that is cold stays so until the partition runs, however often it restarts.
func TestColdStaysCold(t *testing.T) {
	l := of(t, 20)
	for range 3 {
		restarts(t, l, warmStart, life.Cold)
		restarts(t, l, warmStart, life.Cold)
		restarts(t, l, coldStart, life.Cold)
	}
	runs(t, l)
	restarts(t, l, warmStart, life.Warm)
	restarts(t, l, warmStart, life.Warm)
	restarts(t, l, coldStart, life.Cold)
	restarts(t, l, warmStart, life.Cold)
	runs(t, l)
	restarts(t, l, coldStart, life.Cold)
	is(t, l, life.Cold, 14, 6)
}

// P32.2: the last restart that is permitted, and one that is not.
func TestNoMoreRestarts(t *testing.T) {
	for _, n := range []int{0, 1, 2, 3, 999, 1000} {
		for _, a := range []int{warmStart, coldStart} {
			for _, run := range []bool{false, true} {
				l := of(t, n)
				for i := range n {
					l.Run()
					if m, yes, e := l.Do(a); m != 6-a || !yes || e != api.OK { // 4 leads to Warm, 5 to Cold
						t.Fatalf("Do(%d) = %d, %v, %d", a, m, yes, e)
					}
					if l.Starts() != i+1 || l.Left() != n-i-1 {
						t.Fatalf("after %d restarts of %d: %d, %d", i+1, n, l.Starts(), l.Left())
					}
				}
				if run {
					runs(t, l)
				}
				ends(t, l.Clone(), api.OK, halt)
				ends(t, l, api.ErrFull, a)
				is(t, l, life.Idle, n, 0)
			}
		}
	}
}

// P32.2 and P32.3: the mode Idle is never left, and which error is listed first.
func TestIdle(t *testing.T) {
	for _, l := range []*life.Life{after(t, 3, halt), after(t, 3, 0, halt), after(t, 3, 0, warmStart, halt), after(t, 0, warmStart), after(t, 1, coldStart, coldStart), after(t, 0, 0, coldStart)} {
		for _, a := range []int{warmStart, coldStart, halt} {
			refuses(t, l, api.ErrMode, a)
			runsNot(t, l)
		}
		for _, a := range noActions {
			refuses(t, l, api.ErrArg, a)
		}
		is(t, l, life.Idle, l.Starts(), l.Left())
	}
}

// P32.3: Run in each mode.
func TestRun(t *testing.T) {
	runs(t, of(t, 0))
	runs(t, of(t, 3))
	runs(t, after(t, 3, 0, warmStart))
	runs(t, after(t, 3, 0, coldStart))
	runsNot(t, after(t, 3, 0))
	runsNot(t, after(t, 3, 0, warmStart, 0))
	runsNot(t, after(t, 3, halt))
	runsNot(t, after(t, 0, 0, coldStart))
}

// P32.3: Reset, from each mode, restores what New returned.
func TestReset(t *testing.T) {
	for _, n := range []int{0, 1, 2, 3, 1000} {
		for _, actions := range [][]int{{}, {0}, {0, warmStart}, {warmStart}, {0, warmStart, 0, warmStart, coldStart}, {halt}, {0, halt}, {0, coldStart, halt}, {coldStart, coldStart, coldStart, coldStart}} {
			l := after(t, n, actions...)
			for range 2 {
				l.Reset()
				is(t, l, life.Cold, 0, n)
				if !l.Same(of(t, n)) {
					t.Error("something is left of", actions)
				}
			}
			runs(t, l)
			if n > 0 {
				restarts(t, l, warmStart, life.Warm)
			}
			l.Reset()
			is(t, l, life.Cold, 0, n)
		}
	}
}

// P32.4: what a Life and its clone become is up to each of them.
func TestClone(t *testing.T) {
	l := after(t, 3, 0, warmStart)
	c := l.Clone()
	if c == l || !c.Same(l) || !l.Same(c) {
		t.Fatal("a clone is not the same")
	}
	runs(t, l)
	is(t, c, life.Warm, 1, 2)
	restarts(t, l, coldStart, life.Cold)
	ends(t, c, api.OK, halt)
	is(t, l, life.Cold, 2, 1)
	d := c.Clone()
	c.Reset()
	is(t, d, life.Idle, 1, 2)
	d.Reset()
	is(t, d, life.Cold, 0, 3)
	is(t, l, life.Cold, 2, 1)
}

// P32.4: Same looks at mode, starts and what is left, and at nothing else.
func TestSame(t *testing.T) {
	all := func() []*life.Life {
		return []*life.Life{
			of(t, 0), of(t, 1), of(t, 2), of(t, 1000), after(t, 0, 0), after(t, 1, 0), after(t, 2, 0), after(t, 0, halt), after(t, 1, halt),
			after(t, 2, coldStart), after(t, 2, 0, warmStart), after(t, 2, 0, warmStart, 0), after(t, 2, coldStart, halt),
			after(t, 2, coldStart, coldStart), after(t, 3, coldStart), after(t, 1, coldStart), after(t, 1, 0, warmStart),
		}
	}
	for i, a := range all() {
		for j, b := range all() {
			if a.Same(b) != (i == j) {
				t.Errorf("Same of %d and %d: %v", i, j, a.Same(b))
			}
		}
	}
	for _, pair := range [][2]*life.Life{
		{after(t, 2, 0, warmStart, coldStart), after(t, 2, coldStart, warmStart)},
		{after(t, 3, 0, halt), after(t, 3, halt)},
		{after(t, 1, 0, warmStart, coldStart), after(t, 1, coldStart, halt)},
		{after(t, 3, 0, warmStart, 0, 7, 0), after(t, 3, coldStart, 0)},
	} {
		if !pair[0].Same(pair[1]) || !pair[1].Same(pair[0]) {
			t.Error("how it came to be what it is makes no difference")
		}
	}
}

// P32.4 and P32.6: no Life.
func TestNil(t *testing.T) {
	var l *life.Life
	for _, a := range append(noActions, warmStart, coldStart, halt) {
		if m, yes, e := l.Do(a); m != 0 || yes || e != api.ErrArg {
			t.Errorf("Do(%d) = %d, %v, %d", a, m, yes, e)
		}
	}
	if e := l.Run(); e != api.ErrArg {
		t.Errorf("Run() = %d", e)
	}
	is(t, l, 0, 0, 0)
	l.Reset()
	if l.Clone() != nil || !l.Same(nil) {
		t.Error("Clone or Same")
	}
	for _, x := range []*life.Life{of(t, 0), after(t, 0, halt), after(t, 5, 0)} {
		if l.Same(x) || x.Same(l) || x.Same(nil) {
			t.Error("a nil Life is not equal to another")
		}
	}
}
