package supply_test

import (
	"math"
	"math/rand"
	"slices"
	"testing"

	"monocoque/api"
	"monocoque/frame"
	"monocoque/supply"
)

// need holds what Need answers.
func need(t *testing.T, x frame.Table, who, work, n int, e api.Errno) {
	t.Helper()
	if got, err := supply.Need(x, who, work); got != n || err != e {
		t.Errorf("Need of %d for %d in %v: %d, %d, want %d, %d", work, who, x, got, err, n, e)
	}
}

// The chapter's example.
func TestExample(t *testing.T) {
	x := table(10, [3]int{0, 0, 3})
	for n, want := range map[int]int{7: 0, 8: 1, 10: 3} {
		if got := supply.Least(x, 0, n); got != want {
			t.Errorf("Least of %d: %d, want %d", n, got, want)
		}
	}
	if g := supply.Gap(x, 0); g != 7 {
		t.Errorf("Gap: %d", g)
	}
	need(t, x, 0, 3, 10, api.OK)
	need(t, x, 0, 4, 18, api.OK)
}

// P10.1 and T8: any ticks contain the least, some contain just that, and so it is with the most.
func TestLeastAndMost(t *testing.T) {
	dice := rand.New(rand.NewSource(101))
	const frames = 4
	for range 3000 {
		x := tiny(dice, 14)
		for who := range 4 {
			c := counts(x, who, frames+1)
			for n := range frames*x.Frame + 1 {
				least, greatest := slow(c, x.Frame, n)
				if got := supply.Least(x, who, n); got != least {
					t.Fatalf("%v: Least of %d for %d: %d, want %d", x, n, who, got, least)
				}
				if got := supply.Most(x, who, n); got != greatest {
					t.Fatalf("%v: Most of %d for %d: %d, want %d", x, n, who, got, greatest)
				}
			}
		}
	}
}

// P10.1: frames that are as long as they may be, with as many windows.
func TestLeastAndMostOfWideTables(t *testing.T) {
	dice := rand.New(rand.NewSource(102))
	for range 3 {
		x := wide(dice)
		if e := x.Check(); e != api.OK {
			t.Fatal(e)
		}
		for who := range 4 {
			c := counts(x, who, 3)
			for range 6 {
				n := dice.Intn(2 * x.Frame)
				least, greatest := slow(c, x.Frame, n)
				if a, b := supply.Least(x, who, n), supply.Most(x, who, n); a != least || b != greatest {
					t.Errorf("of %d ticks %d to %d, want %d to %d", n, a, b, least, greatest)
				}
			}
		}
	}
}

// P10.1: no ticks contain none.
func TestLeastAndMostOfNoTicks(t *testing.T) {
	for _, x := range []frame.Table{table(1, [3]int{0, 0, 1}), table(10, [3]int{0, 0, 3}), table(mostFrame, [3]int{0, 0, mostFrame})} {
		for _, n := range []int{math.MinInt, math.MinInt + 1, -most, -mostFrame - 1, -mostFrame, -10, -3, -1, 0} {
			if a, b := supply.Least(x, 0, n), supply.Most(x, 0, n); a != 0 || b != 0 {
				t.Errorf("%v: of %d ticks %d to %d", x, n, a, b)
			}
		}
	}
}

// P10.1: ticks up to 2^40, which are whole frames and what is left.
func TestLeastAndMostOfManyTicks(t *testing.T) {
	dice := rand.New(rand.NewSource(103))
	for range 300 {
		x := tiny(dice, 14)
		for who := range 4 {
			c := counts(x, who, 2)
			for _, n := range []int{most, most - 1, most - x.Frame, 1<<39 + dice.Intn(1<<39), 1 << 31, 1<<32 + 1} {
				least, greatest := slow(c, x.Frame, n%x.Frame)
				frames := n / x.Frame * x.Total(who)
				if got := supply.Least(x, who, n); got != frames+least {
					t.Fatalf("%v: Least of %d for %d: %d, want %d", x, n, who, got, frames+least)
				}
				if got := supply.Most(x, who, n); got != frames+greatest {
					t.Fatalf("%v: Most of %d for %d: %d, want %d", x, n, who, got, frames+greatest)
				}
			}
		}
	}
	if all := table(1, [3]int{0, 0, 1}); supply.Least(all, 0, most) != most || supply.Most(all, 0, most) != most {
		t.Error("2^40 ticks, all of them")
	}
}

// P10.2: how many ticks in a row are others', by counting.
func TestGap(t *testing.T) {
	dice := rand.New(rand.NewSource(104))
	for range 3000 {
		x := tiny(dice, 14)
		for who := range 4 {
			want, row := 0, 0
			c := counts(x, who, 3)
			for i := range len(c) - 1 {
				row++
				if c[i+1] > c[i] {
					row = 0
				}
				want = max(want, row)
			}
			if x.Total(who) == 0 {
				want = x.Frame
			}
			if got := supply.Gap(x, who); got != want {
				t.Fatalf("%v: Gap for %d: %d, want %d", x, who, got, want)
			}
		}
	}
}

// P10.2: one who has all ticks, in one window or several, and one who has none; gaps at both ends of a frame are one.
func TestGapAtItsEnds(t *testing.T) {
	for i, x := range []struct {
		t        frame.Table
		who, gap int
	}{
		{table(1, [3]int{0, 0, 1}), 0, 0},
		{table(9, [3]int{0, 0, 9}), 0, 0},
		{table(9, [3]int{5, 0, 2}, [3]int{5, 2, 3}, [3]int{5, 5, 4}), 5, 0},
		{table(mostFrame, [3]int{0, 0, mostFrame}), 0, 0},
		{table(1), 0, 1},
		{table(9, [3]int{0, 0, 9}), 1, 9},
		{table(9, [3]int{0, 3, 2}), -1, 9},
		{table(mostFrame), 3, mostFrame},
		{table(9, [3]int{0, 3, 2}), 0, 7},
		{table(9, [3]int{0, 0, 1}), 0, 8},
		{table(9, [3]int{0, 8, 1}), 0, 8},
		{table(9, [3]int{0, 0, 1}, [3]int{1, 1, 7}, [3]int{0, 8, 1}), 0, 7},
		{table(9, [3]int{1, 0, 3}, [3]int{0, 3, 1}, [3]int{2, 4, 1}, [3]int{0, 5, 1}, [3]int{1, 6, 3}), 0, 6},
		{table(mostFrame, [3]int{math.MaxInt, 1, 1}), math.MaxInt, mostFrame - 1},
	} {
		if got := supply.Gap(x.t, x.who); got != x.gap {
			t.Errorf("table %d: Gap for %d: %d, want %d", i, x.who, got, x.gap)
		}
	}
}

// P10.3: the smallest number of ticks, by trying one after the other.
func TestNeed(t *testing.T) {
	dice := rand.New(rand.NewSource(105))
	const frames = 4
	for range 2000 {
		x := tiny(dice, 14)
		for who := range 3 {
			if x.Total(who) == 0 {
				continue
			}
			c := counts(x, who, frames+1)
			work := 0
			for n := range frames*x.Frame + 1 {
				least, _ := slow(c, x.Frame, n)
				for ; work <= least; work++ {
					need(t, x, who, work, n, api.OK)
				}
			}
			if work != frames*x.Total(who)+1 || t.Failed() {
				t.Fatalf("%v: for %d up to %d", x, who, work)
			}
		}
	}
}

// P10.3: no work needs no ticks, unless who has none.
func TestNeedOfNoWork(t *testing.T) {
	for _, work := range []int{math.MinInt, -most, -1, 0} {
		need(t, table(10, [3]int{0, 0, 3}), 0, work, 0, api.OK)
		need(t, table(mostFrame, [3]int{7, 9, 1}), 7, work, 0, api.OK)
	}
	for _, work := range extremes {
		for _, who := range []int{math.MinInt, -1, 1, 2, math.MaxInt} {
			need(t, table(10, [3]int{0, 0, 3}), who, work, 0, api.ErrNone)
		}
		need(t, table(1), 0, work, 0, api.ErrNone)
		need(t, table(mostFrame), -1, work, 0, api.ErrNone)
	}
}

// P10.3: numbers of ticks up to 2^40, and beyond.
func TestNeedAtItsEnd(t *testing.T) {
	all := table(1, [3]int{0, 0, 1})
	half := table(2, [3]int{0, 0, 1})
	rare := table(mostFrame, [3]int{0, 5, 1})
	two := table(3, [3]int{0, 0, 2})
	for _, x := range []struct {
		t       frame.Table
		work, n int
		e       api.Errno
	}{
		{all, most - 1, most - 1, api.OK},
		{all, most, most, api.OK},
		{all, most + 1, 0, api.ErrRange},
		{all, math.MaxInt, 0, api.ErrRange},
		{half, 1<<39 - 1, most - 2, api.OK},
		{half, 1 << 39, most, api.OK},
		{half, 1<<39 + 1, 0, api.ErrRange},
		{half, most, 0, api.ErrRange},
		{rare, 1, mostFrame, api.OK},
		{rare, 1 << 20, most, api.OK},
		{rare, 1<<20 + 1, 0, api.ErrRange},
		{rare, most, 0, api.ErrRange},
		{rare, most + 1, 0, api.ErrRange},
		{rare, math.MaxInt, 0, api.ErrRange},
		// 2^40 is 3 times a number, and 1: that one tick may be nobody's.
		{two, (most - 1) / 3 * 2, most - 1, api.OK},
		{two, (most-1)/3*2 - 1, most - 2, api.OK},
		{two, (most-1)/3*2 + 1, 0, api.ErrRange},
	} {
		need(t, x.t, 0, x.work, x.n, x.e)
	}
}

// P10.4: a frame's length of ticks contains just the total, wherever it begins; so do several.
func TestFramesContainTheTotal(t *testing.T) {
	dice := rand.New(rand.NewSource(106))
	for i := range 600 {
		x := tiny(dice, 40)
		if i%20 == 0 {
			x = wide(dice)
		}
		for who := range 4 {
			for _, frames := range []int{1, 2, 3, 1000, most / x.Frame} {
				n, total := frames*x.Frame, frames*x.Total(who)
				if a, b := supply.Least(x, who, n), supply.Most(x, who, n); a != total || b != total {
					t.Errorf("%v: of %d ticks %d to %d, want %d", x, n, a, b, total)
				}
			}
		}
	}
}

// P10.4: the need is enough, one tick less is not, and that of 1 is the gap and 1.
func TestNeedIsTheLeastThatIsEnough(t *testing.T) {
	dice := rand.New(rand.NewSource(107))
	for i := range 600 {
		x := tiny(dice, 40)
		if i%4 == 0 {
			x = wide(dice)
		}
		for who := range 3 {
			total := x.Total(who)
			if total == 0 {
				continue
			}
			need(t, x, who, 1, supply.Gap(x, who)+1, api.OK)
			frames := most/x.Frame - 1
			for _, work := range []int{1, 2, total - 1, total, total + 1, 2*total + 1, 1 + dice.Intn(3*total), frames * total, frames*total + 1, 1 + dice.Intn(frames*total)} {
				if work < 1 {
					continue
				}
				n, e := supply.Need(x, who, work)
				if e != api.OK || supply.Least(x, who, n) < work || supply.Least(x, who, n-1) >= work {
					t.Errorf("%v: Need of %d for %d: %d, %d", x, work, who, n, e)
				}
			}
		}
	}
}

// R1: whatever the arguments are, right or not, each call returns. Nobody has anything of a table that is not right.
func TestAnyArguments(t *testing.T) {
	crowd := frame.Table{Frame: 200}
	for i := range mostWindows + 1 {
		crowd.Windows = append(crowd.Windows, frame.Window{From: 2 * i, Length: 1})
	}
	tables := []frame.Table{
		{}, crowd,
		table(mostFrame+1, [3]int{0, 0, 1}),
		table(-1, [3]int{0, 0, 1}),
		table(math.MinInt), table(math.MaxInt, [3]int{0, 0, math.MaxInt}),
		table(9, [3]int{-1, 0, 1}), table(9, [3]int{0, 0, 0}), table(9, [3]int{0, -4, 9}),
		table(9, [3]int{0, 0, 2}, [3]int{0, 1, 4}), table(9, [3]int{0, 5, 1}, [3]int{0, 1, 1}),
		table(9, [3]int{0, 8, math.MaxInt}), table(9, [3]int{0, math.MaxInt, 1}),
	}
	for i, x := range tables {
		if x.Check() == api.OK {
			t.Errorf("table %d is right", i)
		}
		for _, who := range []int{math.MinInt, -1, 0, 1, math.MaxInt} {
			for _, n := range extremes {
				if a, b := supply.Least(x, who, n), supply.Most(x, who, n); a != 0 || b != 0 {
					t.Errorf("table %d: of %d ticks %d to %d", i, n, a, b)
				}
				need(t, x, who, n, 0, api.ErrNone)
			}
			if g := supply.Gap(x, who); g != 0 {
				t.Errorf("table %d: Gap: %d", i, g)
			}
		}
	}
	for _, x := range []frame.Table{table(1, [3]int{0, 0, 1}), table(7, [3]int{0, 1, 2}, [3]int{0, 5, 1}), table(mostFrame, [3]int{0, 0, mostFrame})} {
		for _, n := range extremes {
			supply.Least(x, 0, n)
			supply.Most(x, 0, n)
			supply.Need(x, 0, n)
		}
	}
}

// R4: arguments stay as they are.
func TestTablesStay(t *testing.T) {
	x := wide(rand.New(rand.NewSource(108)))
	whole := append(slices.Clone(x.Windows), frame.Window{Who: 1}, frame.Window{Who: 2})
	was := slices.Clone(whole)
	x.Windows = whole[:mostWindows]
	for who := range 4 {
		for _, n := range extremes {
			supply.Least(x, who, n)
			supply.Most(x, who, n)
			supply.Gap(x, who)
			supply.Need(x, who, n)
		}
	}
	if !slices.Equal(whole, was) {
		t.Error("a table has changed")
	}
}
