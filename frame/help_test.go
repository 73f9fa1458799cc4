package frame_test

import (
	"math"
	"math/rand"
	"slices"
	"testing"

	"monocoque/api"
	"monocoque/frame"
)

// The bounds of the chapter.
const (
	mostTicks   = 1048576
	mostWindows = 64
	mostTables  = 8
)

// extremes are numbers at the ends of all bounds, and far beyond them.
var extremes = []int{math.MinInt, math.MinInt + 1, -mostTicks, -2, -1, 0, 1, 2, 63, 64, mostTicks - 1, mostTicks, mostTicks + 1, 1 << 32, 1 << 40, math.MaxInt - 1, math.MaxInt}

// table returns a table of windows, each told by three numbers.
func table(ticks int, windows ...[3]int) frame.Table {
	t := frame.Table{Frame: ticks}
	for _, w := range windows {
		t.Windows = append(t.Windows, frame.Window{Who: w[0], From: w[1], Length: w[2]})
	}
	return t
}

// tiny returns a right table of at most 12 ticks; windows of the same who may touch each other.
func tiny(dice *rand.Rand) frame.Table {
	t := frame.Table{Frame: 1 + dice.Intn(12)}
	for from := dice.Intn(3); from < t.Frame; {
		length := 1 + dice.Intn(t.Frame-from)
		if length > 1 && dice.Intn(2) == 0 {
			length = 1
		}
		t.Windows = append(t.Windows, frame.Window{Who: dice.Intn(3), From: from, Length: length})
		from += length + dice.Intn(3)*dice.Intn(2)
	}
	return t
}

// full returns a right table of 64 windows, each of two ticks, that lie three ticks from each other.
func full() frame.Table {
	t := frame.Table{Frame: 3 * mostWindows}
	for i := range mostWindows {
		t.Windows = append(t.Windows, frame.Window{Who: i % 5, From: 3 * i, Length: 2})
	}
	return t
}

// wrong returns tables that are not right, with the error of each.
func wrong() map[string]struct {
	t frame.Table
	e api.Errno
} {
	crowd := full()
	crowd.Frame += 3
	crowd.Windows = append(crowd.Windows, frame.Window{Who: 0, From: 3 * mostWindows, Length: 2})
	return map[string]struct {
		t frame.Table
		e api.Errno
	}{
		"zero":           {frame.Table{}, api.ErrRange},
		"negative frame": {table(-1, [3]int{0, 0, 1}), api.ErrRange},
		"long frame":     {table(mostTicks+1, [3]int{0, 0, 1}), api.ErrRange},
		"65 windows":     {crowd, api.ErrFull},
		"negative who":   {table(9, [3]int{-1, 0, 1}), api.ErrRange},
		"negative from":  {table(9, [3]int{0, -1, 2}), api.ErrRange},
		"no length":      {table(9, [3]int{0, 1, 0}), api.ErrRange},
		"beyond":         {table(9, [3]int{0, 8, 2}), api.ErrRange},
		"last is wrong":  {table(9, [3]int{0, 0, 3}, [3]int{1, 3, 3}, [3]int{0, 6, 4}), api.ErrRange},
		"over":           {table(9, [3]int{0, 0, 3}, [3]int{1, 2, 3}), api.ErrOver},
		"disorder":       {table(9, [3]int{0, 5, 2}, [3]int{0, 1, 2}), api.ErrOver},
	}
}

// paint tells for each tick of a right table's frame which of its windows contains it, or -1.
func paint(t frame.Table) []int {
	p := slices.Repeat([]int{-1}, t.Frame)
	for i, w := range t.Windows {
		for n := range w.Length {
			p[w.From+n] = i
		}
	}
	return p
}

// stay counts the ticks of a painted frame from a tick on that are like it.
func stay(p []int, tick int) int {
	n := 1
	for tick+n < len(p) && p[tick+n] == p[tick] {
		n++
	}
	return n
}

// copyOf returns a table that shares nothing with t.
func copyOf(t frame.Table) frame.Table {
	return frame.Table{Frame: t.Frame, Windows: append([]frame.Window(nil), t.Windows...)}
}

// like reports whether both tables have the same numbers.
func like(a, b frame.Table) bool { return a.Frame == b.Frame && slices.Equal(a.Windows, b.Windows) }

// must makes a plan of tables and a mode that may be.
func must(t *testing.T, mode int, l ...frame.Table) *frame.Plan {
	t.Helper()
	p, e := frame.NewPlan(l, mode)
	if p == nil || e != api.OK {
		t.Fatalf("NewPlan(%v, %d) = %v, %d", l, mode, p, e)
	}
	return p
}
