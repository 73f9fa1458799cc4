package meet_test

import (
	"math"
	"math/rand"
	"slices"
	"testing"

	"monocoque/api"
	"monocoque/frame"
	"monocoque/meet"
	"monocoque/supply"
)

// whole gives all ticks to 0.
var whole = table(1, [3]int{0, 0, 1})

// The chapter's example.
func TestExample(t *testing.T) {
	x := table(4, [3]int{0, 0, 2})
	l := tasks([5]int{2, 8, 1, 0, 0}, [5]int{1, 8, 2, 0, 0})
	response(t, x, 0, l, 0, 3, api.OK)
	response(t, x, 0, l, 1, 7, api.OK)
	check(t, x, 0, l, -1, api.OK)
}

// P11.1: the work of others, by priorities and periods.
func TestWork(t *testing.T) {
	for i, x := range []struct {
		l    []meet.Task
		i, n int
	}{
		{tasks([5]int{5, 0, 1, 0, 0}), 0, 1},
		{tasks([5]int{5, 0, 9, 0, 0}), 0, 9},
		{tasks([5]int{5, 0, 9, 0, 4}), 0, 13},
		{tasks([5]int{1, 0, 3, 0, 0}, [5]int{63, 0, 4, 0, 0}), 0, 7},
		{tasks([5]int{1, 0, 3, 0, 0}, [5]int{63, 0, 4, 0, 0}), 1, 4},
		{tasks([5]int{7, 0, 3, 0, 0}, [5]int{7, 0, 4, 0, 0}), 0, 7},
		{tasks([5]int{7, 0, 3, 0, 0}, [5]int{7, 0, 4, 0, 0}), 1, 7},
		{tasks([5]int{7, 0, 3, 0, 0}, [5]int{6, 0, 4, 0, 0}), 0, 3},
		{tasks([5]int{7, 0, 3, 0, 0}, [5]int{8, 0, 4, 0, 9}), 0, 7},
		{tasks([5]int{1, 0, 2, 0, 0}, [5]int{2, 5, 3, 0, 0}), 0, 5},
		{tasks([5]int{1, 0, 3, 0, 0}, [5]int{2, 5, 3, 0, 0}), 0, 9},
		{tasks([5]int{1, 0, 5, 0, 0}, [5]int{2, 5, 3, 0, 0}), 0, 14},
		{tasks([5]int{1, 0, 1, 0, 0}, [5]int{2, 2, 1, 0, 0}), 0, 2},
		{tasks([5]int{1, 0, 2, 0, 0}, [5]int{2, 2, 1, 0, 0}), 0, 4},
		{tasks([5]int{1, 0, 2, 0, 1}, [5]int{2, 2, 1, 0, 7}), 0, 6},
		{tasks([5]int{1, 4, 1, 0, 0}, [5]int{1, 4, 1, 0, 0}, [5]int{1, 4, 1, 0, 0}), 1, 3},
	} {
		n, e := meet.Response(whole, 0, x.l, x.i)
		if n != x.n || e != api.OK {
			t.Errorf("case %d: %d, %d, want %d", i, n, e, x.n)
		}
	}
}

// P11.1: tables and tasks of all sorts, by trying one n after the other.
func TestResponse(t *testing.T) {
	dice := rand.New(rand.NewSource(111))
	met, late := 0, 0
	for range 20000 {
		const ticks = 60
		x := tiny(dice, 14)
		l := some(dice, 1+dice.Intn(5), ticks)
		who := dice.Intn(3) - dice.Intn(2)
		has := slow(x, who, ticks)
		for i, own := range l {
			if own.Deadline == 0 && own.Period == 0 {
				continue // its bound is 2^20
			}
			n, e := slowResponse(func(n int) int { return has[n] }, l, i)
			response(t, x, who, l, i, n, e)
			if e == api.OK {
				met++
			} else {
				late++
			}
		}
		if t.Failed() {
			return
		}
	}
	if met < 10000 || late < 10000 {
		t.Errorf("%d met their bound, %d did not", met, late)
	}
}

// P11.1: tasks whose bound is 2^20.
func TestResponseWithoutBound(t *testing.T) {
	dice := rand.New(rand.NewSource(112))
	for range 25 {
		x := tiny(dice, 14)
		l := some(dice, 1+dice.Intn(5), 60)
		l[0].Period, l[0].Deadline = 0, 0
		n, e := slowResponse(func(n int) int { return supply.Least(x, 0, n) }, l, 0)
		response(t, x, 0, l, 0, n, e)
	}
}

// P11.1: many windows, long frames, and great numbers.
func TestResponseInWideTables(t *testing.T) {
	dice := rand.New(rand.NewSource(113))
	met := 0
	for range 15 {
		const most = 1 << 15
		x := wide(dice, 1<<(8+dice.Intn(6)))
		least := make([]int, most+1)
		for n := range least {
			least[n] = supply.Least(x, 0, n)
		}
		var l []meet.Task
		for range 1 + dice.Intn(mostTasks) {
			period := most/2 + dice.Intn(most/2)
			l = append(l, meet.Task{Priority: 1 + dice.Intn(63), Period: period, Capacity: 1 + dice.Intn(1<<10), Deadline: 1 + dice.Intn(period), Block: dice.Intn(9)})
		}
		for i := range l {
			n, e := slowResponse(func(n int) int { return least[n] }, l, i)
			response(t, x, 0, l, i, n, e)
			if e == api.OK {
				met++
			}
		}
	}
	if met < 20 {
		t.Errorf("only %d met their bound", met)
	}
}

// P11.1: a response just at the bound, and just beyond it.
func TestBound(t *testing.T) {
	half := table(2, [3]int{0, 0, 1})
	for i, x := range []struct {
		t frame.Table
		l []meet.Task
		n int
		e api.Errno
	}{
		// The deadline.
		{whole, tasks([5]int{1, 0, 3, 3, 0}), 3, api.OK},
		{whole, tasks([5]int{1, 0, 4, 3, 0}), 0, api.ErrTime},
		{whole, tasks([5]int{1, 0, 3, 3, 1}), 0, api.ErrTime},
		{whole, tasks([5]int{1, 9, 3, 3, 0}), 3, api.OK},
		{whole, tasks([5]int{1, 9, 3, 2, 0}), 0, api.ErrTime},
		{half, tasks([5]int{1, 9, 3, 6, 0}), 6, api.OK},
		{half, tasks([5]int{1, 9, 3, 5, 0}), 0, api.ErrTime},
		{whole, tasks([5]int{1, 0, 3, mostTicks, 0}), 3, api.OK},
		// The period.
		{whole, tasks([5]int{1, 3, 3, 0, 0}), 3, api.OK},
		{whole, tasks([5]int{1, 3, 4, 0, 0}), 0, api.ErrTime},
		{half, tasks([5]int{1, 6, 3, 0, 0}), 6, api.OK},
		{half, tasks([5]int{1, 5, 3, 0, 0}), 0, api.ErrTime},
		// Neither.
		{whole, tasks([5]int{1, 0, mostTicks, 0, 0}), mostTicks, api.OK},
		{whole, tasks([5]int{1, 0, mostTicks, 0, 1}), 0, api.ErrTime},
		{whole, tasks([5]int{1, 0, mostTicks - 1, 0, 1}), mostTicks, api.OK},
		{whole, tasks([5]int{1, 0, 1, 0, mostTicks}), 0, api.ErrTime},
		{half, tasks([5]int{1, 0, 1 << 19, 0, 0}), mostTicks, api.OK},
		{half, tasks([5]int{1, 0, 1<<19 + 1, 0, 0}), 0, api.ErrTime},
		{table(mostTicks, [3]int{0, 77, 1}), tasks([5]int{1, 0, 1, 0, 0}), mostTicks, api.OK},
		{table(mostTicks, [3]int{0, 77, 1}), tasks([5]int{1, 0, 2, 0, 0}), 0, api.ErrTime},
		{table(mostTicks, [3]int{0, 0, mostTicks}), tasks([5]int{1, 0, mostTicks, 0, 0}), mostTicks, api.OK},
		// Others do not have to meet theirs.
		{whole, tasks([5]int{1, 9, 3, 9, 0}, [5]int{2, 5, 2, 1, 0}), 5, api.OK},
		// Work without end.
		{whole, tasks([5]int{1, 0, 1, 0, 0}, [5]int{2, 1, 1, 0, 0}), 0, api.ErrTime},
		{half, tasks([5]int{1, 0, 1, 0, 0}, [5]int{2, 2, 1, 0, 0}), 0, api.ErrTime},
		{whole, tasks([5]int{1, 0, 1, 0, 0}, [5]int{2, 1, mostTicks, 0, 0}), 0, api.ErrTime},
	} {
		n, e := meet.Response(x.t, 0, x.l, 0)
		if n != x.n || e != x.e {
			t.Errorf("case %d: %d, %d, want %d, %d", i, n, e, x.n, x.e)
		}
	}
}

// P11.1: one who has no ticks never responds.
func TestNoTicks(t *testing.T) {
	l := tasks([5]int{1, 0, 1, 0, 0}, [5]int{63, mostTicks, 1, mostTicks, 0})
	for _, who := range []int{math.MinInt, -1, 1, 2, 16, math.MaxInt} {
		for i := range l {
			response(t, whole, who, l, i, 0, api.ErrTime)
			response(t, table(mostTicks), who, l, i, 0, api.ErrTime)
		}
		check(t, whole, who, l, 1, api.ErrTime)
	}
	response(t, table(5, [3]int{math.MaxInt, 0, 5}), math.MaxInt, l, 0, 2, api.OK)
}

// P11.1: nearly as many ticks are used as there are, so the search has many steps; it has to end soon all the same.
func TestManySteps(t *testing.T) {
	l := tasks([5]int{1, 0, 1, 0, 0})
	for i := range 15 {
		l = append(l, meet.Task{Priority: 2, Period: 2 << i, Capacity: 1})
	}
	most := slices.Clone(l)
	most[15].Period--
	overload := tasks([5]int{1, 0, 1, 0, 0}, [5]int{1, 1, 1, 0, 0})
	all, comb := table(mostTicks), table(2*mostWindows)
	for i := range mostWindows {
		all.Windows = append(all.Windows, frame.Window{From: i << 14, Length: 1 << 14})
		comb.Windows = append(comb.Windows, frame.Window{From: 2 * i, Length: 1})
	}
	for i, x := range []struct {
		t     frame.Table
		l     []meet.Task
		least func(n int) int
	}{
		{all, l, func(n int) int { return n }},
		{all, most, func(n int) int { return n }},
		{comb, slices.Concat(l[:1], l[2:]), func(n int) int { return n / 2 }},
		{all, overload, func(n int) int { return n }},
		{comb, overload, func(n int) int { return n / 2 }},
	} {
		want, e := slowResponse(x.least, x.l, 0)
		if e == api.OK && want < 1<<15 {
			t.Errorf("case %d has few steps", i)
		}
		for range 10 {
			if n, err := meet.Response(x.t, 0, x.l, 0); n != want || err != e {
				t.Errorf("case %d: %d, %d, want %d, %d", i, n, err, want, e)
			}
		}
	}
}

// P11.1: which tasks there are.
func TestNoSuchTask(t *testing.T) {
	many := slices.Repeat(tasks([5]int{1, 0, 1, 0, 0}), mostTasks+1)
	for count := range mostTasks + 2 {
		l := many[:count]
		for _, i := range append([]int{count - 1, count, count + 1}, extremes...) {
			n, e := count, api.OK
			if i < 0 || i >= count || count > mostTasks {
				n, e = 0, api.ErrArg
			}
			response(t, whole, 0, l, i, n, e)
		}
	}
	response(t, whole, 0, make([]meet.Task, 17), 0, 0, api.ErrArg)
	response(t, whole, 0, make([]meet.Task, 1000), 999, 0, api.ErrArg)
}

// right is the chapter's definition.
func right(x meet.Task) bool {
	if x.Priority < 1 || x.Priority > 63 || x.Period < 0 || x.Period > mostTicks || x.Block < 0 || x.Block > mostTicks {
		return false
	}
	if x.Capacity < 1 || x.Capacity > mostTicks || x.Deadline < 0 || x.Deadline > mostTicks {
		return false
	}
	return x.Period == 0 || x.Deadline <= x.Period
}

// P11.1 and P11.2: each number of a task, at and beyond its ends, of the task that is asked for and of another one.
func TestRightTasks(t *testing.T) {
	good := tasks([5]int{9, 40, 1, 30, 2}, [5]int{9, 0, 1, 30, 2}, [5]int{9, 0, 1, 0, 2}, [5]int{9, 40, 1, 0, 2})
	fields := []func(x *meet.Task) *int{
		func(x *meet.Task) *int { return &x.Priority },
		func(x *meet.Task) *int { return &x.Period },
		func(x *meet.Task) *int { return &x.Capacity },
		func(x *meet.Task) *int { return &x.Deadline },
		func(x *meet.Task) *int { return &x.Block },
	}
	for _, own := range good {
		for f, field := range fields {
			for _, n := range append([]int{29, 30, 31, 39, 40, 41}, extremes...) {
				x := own
				*field(&x) = n
				for i, l := range [][]meet.Task{{x}, {x, good[0]}, {good[0], x}} {
					_, e := meet.Response(whole, 0, l, 0)
					at, ce := meet.Check(whole, 0, l)
					if (e == api.ErrRange) == right(x) || (ce == api.ErrRange) == right(x) || ce == api.ErrRange && at != -1 {
						t.Errorf("field %d is %d, list %d: %d, %d", f, n, i, e, ce)
					}
				}
			}
		}
	}
}

// P11.1 and P11.2: which of several errors is the first.
func TestOrderOfErrors(t *testing.T) {
	bad, never := meet.Task{}, tasks([5]int{1, 5, 3, 2, 0})
	many := slices.Repeat([]meet.Task{bad}, mostTasks+1)
	for name, x := range wrong() {
		response(t, x, 0, never, 1, 0, api.ErrArg)
		response(t, x, 0, nil, 0, 0, api.ErrArg)
		response(t, x, 0, many, 3, 0, api.ErrArg)
		response(t, x, 0, many[:mostTasks], 3, 0, api.ErrForm)
		response(t, x, 0, never, 0, 0, api.ErrForm)
		check(t, x, 0, many, -1, api.ErrArg)
		check(t, x, 0, many[:mostTasks], -1, api.ErrForm)
		check(t, x, 0, never, -1, api.ErrForm)
		check(t, x, 5, never, -1, api.ErrForm)
		if t.Failed() {
			t.Fatal(name)
		}
	}
	l := append(slices.Clone(never), bad)
	response(t, whole, 0, l, -1, 0, api.ErrArg)
	response(t, whole, 0, l, 0, 0, api.ErrRange)
	response(t, whole, 5, l, 1, 0, api.ErrRange)
	response(t, whole, 0, never, 0, 0, api.ErrTime)
	check(t, whole, 0, many, -1, api.ErrArg)
	check(t, whole, 0, l, -1, api.ErrRange)
	check(t, whole, 5, l, -1, api.ErrRange)
	check(t, whole, 0, never, 0, api.ErrTime)
}

// P11.2: the first task that has a deadline and is late; those without a deadline may be so.
func TestCheck(t *testing.T) {
	late, never, fine := [5]int{1, 9, 4, 3, 0}, [5]int{1, 3, 4, 0, 0}, [5]int{2, 0, 1, 1, 0}
	for i, x := range []struct {
		l  []meet.Task
		at int
	}{
		{nil, -1},
		{tasks(fine), -1},
		{tasks(never), -1},
		{tasks(late), 0},
		{tasks(never, late), 1},
		{tasks(fine, never), -1},
		{tasks(fine, late, late), 1},
		{tasks(never, fine, never, late), 3},
		{tasks(late, fine), 0},
	} {
		e := api.OK
		if x.at >= 0 {
			e = api.ErrTime
		}
		if at, err := meet.Check(whole, 0, x.l); at != x.at || err != e {
			t.Errorf("case %d: %d, %d, want %d, %d", i, at, err, x.at, e)
		}
	}
	l := slices.Repeat(tasks(fine), mostTasks)
	check(t, whole, 0, l[:1], -1, api.OK)
	check(t, whole, 0, l, 0, api.ErrTime)
	for i := range l {
		l[i].Priority, l[i].Deadline = 63-i, i+1
	}
	check(t, whole, 0, l, -1, api.OK)
	l[15].Deadline--
	check(t, whole, 0, l, 15, api.ErrTime)
}

// P11.2: Check tells what Response tells of each task that has a deadline.
func TestCheckIsOfResponses(t *testing.T) {
	dice := rand.New(rand.NewSource(115))
	seen := map[int]int{}
	for range 20000 {
		x := tiny(dice, 14)
		l := some(dice, dice.Intn(6), 60)
		who := dice.Intn(2)
		at, e := -1, api.OK
		for i, own := range l {
			if own.Deadline == 0 || at >= 0 {
				continue
			}
			if _, err := meet.Response(x, who, l, i); err != api.OK {
				at, e = i, err
			}
		}
		check(t, x, who, l, at, e)
		seen[at]++
	}
	for at := -1; at < 4; at++ {
		if seen[at] < 100 {
			t.Errorf("only %d times %d", seen[at], at)
		}
	}
}

// P11.4 and R4: asking changes nothing, what follows a list in memory included.
func TestArgumentsStay(t *testing.T) {
	dice := rand.New(rand.NewSource(116))
	for range 300 {
		x := wide(dice, 1<<10)
		windows := append(slices.Clone(x.Windows), frame.Window{Who: 1}, frame.Window{Who: 2})
		x.Windows = windows[:mostWindows]
		wasWindows := slices.Clone(windows)
		l := append(some(dice, 4, 900), make([]meet.Task, 2)...)
		was := slices.Clone(l)
		for i := -1; i < 5; i++ {
			meet.Response(x, 0, l[:4], i)
			meet.Check(x, 1, l[:4])
		}
		if !slices.Equal(l, was) || !slices.Equal(windows, wasWindows) {
			t.Fatal("an argument has changed")
		}
	}
}

// P11.4 and R6: what is changed after a call has no effect on later ones.
func TestNothingIsKept(t *testing.T) {
	x := table(4, [3]int{0, 0, 2})
	l := tasks([5]int{2, 8, 1, 0, 0}, [5]int{1, 8, 2, 0, 0})
	for range 3 {
		response(t, x, 0, l, 1, 7, api.OK)
		x.Windows[0].Length, l[0].Capacity = 4, 3
		response(t, x, 0, l, 1, 5, api.OK)
		x.Windows[0].Length, l[0].Capacity = 2, 1
	}
}
