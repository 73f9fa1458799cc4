package meet_test

import (
	"math"
	"math/rand"
	"testing"

	"monocoque/api"
	"monocoque/frame"
	"monocoque/meet"
)

// The bounds of the chapters.
const (
	mostTasks   = 16
	mostWindows = 64
	mostTicks   = 1 << 20
)

// extremes are numbers at the ends of all bounds, and far beyond them.
var extremes = []int{
	math.MinInt, math.MinInt + 1, -mostTicks, -2, -1, 0, 1, 2, 15, 16, 17, 62, 63, 64, 65,
	mostTicks - 1, mostTicks, mostTicks + 1, 1 << 40, math.MaxInt - 1, math.MaxInt,
}

// table returns a table of windows, each told by three numbers.
func table(ticks int, windows ...[3]int) frame.Table {
	t := frame.Table{Frame: ticks}
	for _, w := range windows {
		t.Windows = append(t.Windows, frame.Window{Who: w[0], From: w[1], Length: w[2]})
	}
	return t
}

// tasks returns tasks, each told by its numbers in their order.
func tasks(l ...[5]int) []meet.Task {
	var told []meet.Task
	for _, x := range l {
		told = append(told, meet.Task{Priority: x[0], Period: x[1], Capacity: x[2], Deadline: x[3], Block: x[4]})
	}
	return told
}

// tiny returns a right table of at most so many ticks; windows of the same who may touch each other.
func tiny(dice *rand.Rand, ticks int) frame.Table {
	t := frame.Table{Frame: 1 + dice.Intn(ticks)}
	for from := dice.Intn(3); from < t.Frame; {
		length := 1
		if dice.Intn(2) == 0 {
			length += dice.Intn(t.Frame - from)
		}
		t.Windows = append(t.Windows, frame.Window{Who: dice.Intn(2), From: from, Length: length})
		from += length + dice.Intn(4)*dice.Intn(2)
	}
	return t
}

// wide returns a right table of 64 windows of 2 numbers, of any lengths, in a frame of so many ticks.
func wide(dice *rand.Rand, ticks int) frame.Table {
	t := frame.Table{Frame: ticks}
	part := ticks / mostWindows
	for i := range mostWindows {
		from := dice.Intn(part - 1)
		t.Windows = append(t.Windows, frame.Window{Who: dice.Intn(2), From: i*part + from, Length: 1 + dice.Intn(part-from)})
	}
	return t
}

// some returns right tasks of small numbers; a deadline, where there is one, is at most the period or so many ticks.
func some(dice *rand.Rand, count, ticks int) []meet.Task {
	var l []meet.Task
	for range count {
		x := meet.Task{Priority: 1 + dice.Intn(4), Capacity: 1 + dice.Intn(3)}
		most := ticks
		if dice.Intn(5) > 0 {
			x.Period = 1 + dice.Intn(ticks)
			most = x.Period
		}
		if dice.Intn(3) > 0 {
			x.Deadline = 1 + dice.Intn(most)
		}
		if dice.Intn(2) == 0 {
			x.Block = dice.Intn(4)
		}
		l = append(l, x)
	}
	return l
}

// slow counts what any n consecutive ticks of a table have at least, for each n of at most so many ticks, tick by tick.
func slow(t frame.Table, who, most int) []int {
	own := make([]int, t.Frame)
	for _, w := range t.Windows {
		for n := range w.Length {
			if w.Who == who {
				own[w.From+n] = 1
			}
		}
	}
	least := make([]int, most+1)
	for from := range t.Frame {
		has := 0
		for n := 1; n <= most; n++ {
			has += own[(from+n-1)%t.Frame]
			if from == 0 || has < least[n] {
				least[n] = has
			}
		}
	}
	return least
}

// slowWork is the work in n ticks for the task i, by the chapter's words.
func slowWork(l []meet.Task, i, n int) int {
	sum := l[i].Block + l[i].Capacity
	for j, x := range l {
		if j == i || x.Priority < l[i].Priority {
			continue
		}
		times := 1
		if x.Period > 0 {
			times = n / x.Period
			if n%x.Period > 0 {
				times++
			}
		}
		sum += times * x.Capacity
	}
	return sum
}

// slowResponse is Response of what is right, by trying one n after the other.
func slowResponse(least func(n int) int, l []meet.Task, i int) (int, api.Errno) {
	bound := mostTicks
	if l[i].Period > 0 {
		bound = l[i].Period
	}
	if l[i].Deadline > 0 {
		bound = l[i].Deadline
	}
	for n := 1; n <= bound; n++ {
		if slowWork(l, i, n) <= least(n) {
			return n, api.OK
		}
	}
	return 0, api.ErrTime
}

// response holds what Response returns.
func response(t *testing.T, x frame.Table, who int, l []meet.Task, i, n int, e api.Errno) {
	t.Helper()
	if got, err := meet.Response(x, who, l, i); got != n || err != e {
		t.Errorf("Response of %d for %d of %v in %v: %d, %d, want %d, %d", i, who, l, x, got, err, n, e)
	}
}

// check holds what Check returns.
func check(t *testing.T, x frame.Table, who int, l []meet.Task, at int, e api.Errno) {
	t.Helper()
	if got, err := meet.Check(x, who, l); got != at || err != e {
		t.Errorf("Check for %d of %v in %v: %d, %d, want %d, %d", who, l, x, got, err, at, e)
	}
}

// wrong are tables that are not right.
func wrong() map[string]frame.Table {
	crowd := frame.Table{Frame: 2 * (mostWindows + 1)}
	for i := range mostWindows + 1 {
		crowd.Windows = append(crowd.Windows, frame.Window{From: 2 * i, Length: 1})
	}
	return map[string]frame.Table{
		"nothing":          {},
		"too long":         table(mostTicks+1, [3]int{0, 0, 1}),
		"too many":         crowd,
		"over another one": table(9, [3]int{0, 0, 4}, [3]int{0, 3, 4}),
		"beyond the frame": table(9, [3]int{0, 0, 10}),
		"of nobody":        table(9, [3]int{-1, 0, 9}),
		"of no ticks":      table(9, [3]int{0, 0, 0}),
		"not in order":     table(9, [3]int{0, 5, 1}, [3]int{0, 0, 1}),
	}
}
