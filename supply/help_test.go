package supply_test

import (
	"math"
	"math/rand"

	"monocoque/frame"
)

// The bounds of the chapters.
const (
	mostFrame   = 1 << 20
	mostWindows = 64
	most        = 1 << 40
)

// extremes are numbers at the ends of all bounds, and far beyond them.
var extremes = []int{math.MinInt, math.MinInt + 1, -most, -2, -1, 0, 1, 2, mostFrame - 1, mostFrame, mostFrame + 1, most - 1, most, most + 1, math.MaxInt - 1, math.MaxInt}

// table returns a table of windows, each told by three numbers.
func table(ticks int, windows ...[3]int) frame.Table {
	t := frame.Table{Frame: ticks}
	for _, w := range windows {
		t.Windows = append(t.Windows, frame.Window{Who: w[0], From: w[1], Length: w[2]})
	}
	return t
}

// tiny returns a right table of at most so many ticks; windows of the same who may touch each other.
func tiny(dice *rand.Rand, ticks int) frame.Table {
	t := frame.Table{Frame: 1 + dice.Intn(ticks)}
	for from := dice.Intn(3); from < t.Frame; {
		length := 1
		if dice.Intn(2) == 0 {
			length += dice.Intn(t.Frame - from)
		}
		t.Windows = append(t.Windows, frame.Window{Who: dice.Intn(3), From: from, Length: length})
		from += length + dice.Intn(4)*dice.Intn(2)
	}
	return t
}

// wide returns a right table of 64 windows of 3 numbers, of any lengths, in a frame that is as long as one may be.
func wide(dice *rand.Rand) frame.Table {
	t := frame.Table{Frame: mostFrame}
	part := mostFrame / mostWindows
	for i := range mostWindows {
		from := dice.Intn(part - 1)
		t.Windows = append(t.Windows, frame.Window{Who: dice.Intn(3), From: i*part + from, Length: 1 + dice.Intn(part-from)})
	}
	return t
}

// counts are, for each n, how many of the first n ticks of a repeated table who has, through so many frames.
func counts(t frame.Table, who, frames int) []int {
	own := make([]bool, t.Frame)
	for _, w := range t.Windows {
		for n := range w.Length {
			own[w.From+n] = w.Who == who
		}
	}
	c := []int{0}
	for i := range frames * t.Frame {
		n := c[i]
		if own[i%t.Frame] {
			n++
		}
		c = append(c, n)
	}
	return c
}

// slow returns the smallest and the greatest number of ticks in n consecutive ones, by counting those from each
// tick of the first frame on; c reaches one frame further than n.
func slow(c []int, ticks, n int) (least, greatest int) {
	least, greatest = n, 0
	for from := range ticks {
		has := c[from+n] - c[from]
		least, greatest = min(least, has), max(greatest, has)
	}
	return least, greatest
}
