package frame_test

import (
	"math"
	"math/rand"
	"slices"
	"testing"

	"monocoque/api"
	"monocoque/frame"
)

// P9.1: the length of a frame, at and beyond its ends.
func TestCheckOfFrames(t *testing.T) {
	for _, ticks := range extremes {
		want := api.OK
		if ticks < 1 || ticks > mostTicks {
			want = api.ErrRange
		}
		if e := table(ticks).Check(); e != want {
			t.Errorf("a frame of %d ticks: %d, want %d", ticks, e, want)
		}
	}
}

// P9.1: tables that are right, at the ends of what may be.
func TestCheckOfRightTables(t *testing.T) {
	for i, x := range []frame.Table{
		table(1),
		table(1, [3]int{0, 0, 1}),
		{Frame: 1, Windows: []frame.Window{}},
		table(mostTicks, [3]int{math.MaxInt, 0, mostTicks}),
		table(mostTicks, [3]int{0, mostTicks - 1, 1}),
		table(10, [3]int{0, 0, 3}, [3]int{1, 5, 4}),
		table(10, [3]int{0, 0, 5}, [3]int{0, 5, 5}),
		table(10, [3]int{7, 1, 1}, [3]int{7, 2, 1}, [3]int{3, 3, 6}),
		full(),
	} {
		if e := x.Check(); e != api.OK {
			t.Errorf("table %d: %d", i, e)
		}
	}
}

// P9.1: each number of a window, in the only window, and behind a right one.
func TestCheckOfNumbers(t *testing.T) {
	right := func(ticks int, w frame.Window) bool {
		if w.Who < 0 || w.From < 0 || w.Length < 1 || w.From > ticks || w.Length > ticks {
			return false
		}
		return w.From+w.Length <= ticks
	}
	for _, ticks := range []int{1, 2, 3, 63, 64, 65, mostTicks - 1, mostTicks} {
		numbers := append([]int{3, ticks - 1, ticks, ticks + 1}, extremes...)
		for _, from := range numbers {
			for _, length := range numbers {
				for _, who := range []int{math.MinInt, -1, 0, 1, math.MaxInt} {
					w := frame.Window{Who: who, From: from, Length: length}
					want := api.OK
					if !right(ticks, w) {
						want = api.ErrRange
					}
					if e := (frame.Table{Frame: ticks, Windows: []frame.Window{w}}).Check(); e != want {
						t.Fatalf("%v in a frame of %d: %d, want %d", w, ticks, e, want)
					}
					if want == api.OK && from < 1 {
						want = api.ErrOver
					}
					if e := (frame.Table{Frame: ticks, Windows: []frame.Window{{Length: 1}, w}}).Check(); e != want {
						t.Fatalf("%v behind a window in a frame of %d: %d, want %d", w, ticks, e, want)
					}
				}
			}
		}
	}
}

// P9.1: which of several errors is the first.
func TestCheckOfOrder(t *testing.T) {
	crowd := slices.Repeat([]frame.Window{{Who: -1, From: -1}}, mostWindows+1)
	for i, x := range []struct {
		t frame.Table
		e api.Errno
	}{
		{frame.Table{Frame: 0, Windows: crowd}, api.ErrRange},
		{frame.Table{Frame: mostTicks + 1, Windows: crowd}, api.ErrRange},
		{frame.Table{Frame: 9, Windows: crowd}, api.ErrFull},
		{frame.Table{Frame: 9, Windows: crowd[:mostWindows]}, api.ErrRange},
		{table(9, [3]int{0, 4, 2}, [3]int{0, 5, 2}, [3]int{-1, 8, 1}), api.ErrOver},
		{table(9, [3]int{0, 4, 2}, [3]int{-1, 8, 1}, [3]int{0, 5, 2}), api.ErrRange},
		{table(9, [3]int{0, 4, 2}, [3]int{-1, 5, 1}), api.ErrRange},
		{table(9, [3]int{0, 4, 2}, [3]int{0, 5, 5}), api.ErrRange},
		{table(9, [3]int{0, 4, 2}, [3]int{0, 3, 0}), api.ErrRange},
		{table(9, [3]int{0, 4, 2}, [3]int{0, 4, 2}), api.ErrOver},
		{table(9, [3]int{0, 4, 2}, [3]int{0, 3, 1}), api.ErrOver},
		{table(9, [3]int{0, 4, 2}, [3]int{0, 6, 2}, [3]int{0, 7, 1}), api.ErrOver},
		{table(9, [3]int{0, 0, 9}, [3]int{1, 4, 1}, [3]int{2, 5, 1}), api.ErrOver},
	} {
		if e := x.t.Check(); e != x.e {
			t.Errorf("table %d: %d, want %d", i, e, x.e)
		}
	}
	for name, x := range wrong() {
		if e := x.t.Check(); e != x.e {
			t.Errorf("%s: %d, want %d", name, e, x.e)
		}
	}
}

// The chapter's example.
func TestExample(t *testing.T) {
	x := table(10, [3]int{0, 0, 3}, [3]int{1, 5, 4})
	for tick, want := range [][2]int{{0, 3}, {0, 2}, {0, 1}, {-1, 2}, {-1, 1}, {1, 4}, {1, 3}, {1, 2}, {1, 1}, {-1, 1}} {
		if who, left := x.At(tick); who != want[0] || left != want[1] {
			t.Errorf("At(%d) = %d, %d, want %v", tick, who, left, want)
		}
	}
}

// atAll holds At of each tick of a right table against the painted frame.
func atAll(t *testing.T, x frame.Table) {
	t.Helper()
	p := paint(x)
	for tick := range x.Frame {
		want := -1
		if p[tick] >= 0 {
			want = x.Windows[p[tick]].Who
		}
		if who, left := x.At(tick); who != want || left != stay(p, tick) {
			t.Fatalf("%v: At(%d) = %d, %d, want %d, %d", x, tick, who, left, want, stay(p, tick))
		}
	}
}

// P9.1: each tick of many frames; windows that touch each other are two, whoever has them.
func TestAt(t *testing.T) {
	dice := rand.New(rand.NewSource(9))
	for range 3000 {
		atAll(t, tiny(dice))
	}
	for _, x := range []frame.Table{table(1), table(7), full(), table(9, [3]int{4, 0, 4}, [3]int{4, 4, 5}), table(9, [3]int{math.MaxInt, 8, 1})} {
		atAll(t, x)
	}
	x := table(mostTicks, [3]int{3, 1, 5}, [3]int{2, mostTicks - 2, 1})
	for _, want := range [][3]int{{0, -1, 1}, {1, 3, 5}, {6, -1, mostTicks - 8}, {mostTicks - 2, 2, 1}, {mostTicks - 1, -1, 1}} {
		if who, left := x.At(want[0]); who != want[1] || left != want[2] {
			t.Errorf("At(%d) = %d, %d, want %v", want[0], who, left, want[1:])
		}
	}
}

// P9.1: At outside the frame, and of tables that are not right.
func TestAtOfNothing(t *testing.T) {
	for _, x := range []frame.Table{table(10, [3]int{0, 0, 10}), table(10), full()} {
		for _, tick := range append([]int{-10, x.Frame, x.Frame + 1, 2 * x.Frame}, extremes...) {
			if tick >= 0 && tick < x.Frame {
				continue
			}
			if who, left := x.At(tick); who != -1 || left != 0 {
				t.Errorf("At(%d) = %d, %d, the frame being %d", tick, who, left, x.Frame)
			}
		}
	}
	for name, x := range wrong() {
		for _, tick := range append([]int{3, 4, 5, 6, 7, 8, 9}, extremes...) {
			if who, left := x.t.At(tick); who != -1 || left != 0 {
				t.Errorf("%s: At(%d) = %d, %d", name, tick, who, left)
			}
		}
	}
}

// P9.1: what each number has of many tables.
func TestTotalAndOf(t *testing.T) {
	dice := rand.New(rand.NewSource(91))
	tables := []frame.Table{full(), table(5), table(9, [3]int{math.MaxInt, 0, 9}), table(mostTicks, [3]int{1, 0, mostTicks})}
	for range 2000 {
		tables = append(tables, tiny(dice))
	}
	for _, x := range tables {
		for _, who := range []int{math.MinInt, -1, 0, 1, 2, 3, 4, 5, math.MaxInt} {
			var want []frame.Window
			total := 0
			for _, w := range x.Windows {
				if w.Who == who {
					want = append(want, w)
					total += w.Length
				}
			}
			if l := x.Of(who); !slices.Equal(l, want) {
				t.Fatalf("%v: Of(%d) = %v", x, who, l)
			}
			if n := x.Total(who); n != total {
				t.Fatalf("%v: Total(%d) = %d, want %d", x, who, n, total)
			}
		}
	}
}

// P9.1: nobody has anything of a table that is not right.
func TestTotalAndOfNothing(t *testing.T) {
	for name, x := range wrong() {
		for who := -2; who < 6; who++ {
			if l, n := x.t.Of(who), x.t.Total(who); len(l) != 0 || n != 0 {
				t.Errorf("%s: Of(%d) = %v, Total is %d", name, who, l, n)
			}
		}
	}
}

// P9.1 and R4: asking changes nothing, and what was told is not the table's own.
func TestTablesStay(t *testing.T) {
	x := full()
	was := copyOf(x)
	for range 2 {
		for who := range 6 {
			for tick := range x.Frame {
				x.At(tick)
			}
			x.Total(who)
			l := x.Of(who)
			clear(l[:cap(l)])
		}
		x.Check()
		if !like(x, was) {
			t.Fatal("a table has changed")
		}
	}
	whole := copyOf(x).Windows
	part := frame.Table{Frame: x.Frame, Windows: whole[:1]}
	part.Of(0)
	part.Total(0)
	if !slices.Equal(whole, x.Windows) {
		t.Error("what follows the windows in memory has changed")
	}
}
