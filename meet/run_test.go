package meet_test

import (
	"math/rand"
	"testing"

	"monocoque/api"
	"monocoque/frame"
	"monocoque/meet"
)

// A job is what is left of a release of a task.
type job struct{ task, from, left int }

// first returns the job that runs: that of the highest priority, and of these the one that became ready first.
// Jobs are in the order in which they became ready.
func first(l []meet.Task, jobs []job) int {
	best := 0
	for i, j := range jobs {
		if l[j.task].Priority > l[jobs[best].task].Priority {
			best = i
		}
	}
	return best
}

// run lets so many ticks of a table pass from some tick on, releases the tasks no more often than they may be, each
// at most so many ticks after it could be, and returns for each the greatest time in which a release of it was done.
// Releases that are not done at the end count with the time that has passed.
func run(dice *rand.Rand, x frame.Table, l []meet.Task, ticks, delay int) []int {
	longest := make([]int, len(l))
	next := make([]int, len(l))
	for i := range next {
		next[i] = dice.Intn(delay + 1)
	}
	var jobs []job
	from := dice.Intn(x.Frame)
	for now := range ticks {
		for _, i := range dice.Perm(len(l)) {
			if next[i] != now {
				continue
			}
			use := l[i].Capacity
			if dice.Intn(3) == 0 {
				use = 1 + dice.Intn(use)
			}
			jobs = append(jobs, job{i, now, use})
			next[i] = -1
			if l[i].Period > 0 {
				next[i] = now + l[i].Period + dice.Intn(delay+1)
			}
		}
		if who, _ := x.At((from + now) % x.Frame); who != 0 || len(jobs) == 0 {
			continue
		}
		i := first(l, jobs)
		if jobs[i].left--; jobs[i].left == 0 {
			longest[jobs[i].task] = max(longest[jobs[i].task], now+1-jobs[i].from)
			jobs = append(jobs[:i], jobs[i+1:]...)
		}
	}
	for _, j := range jobs {
		longest[j.task] = max(longest[j.task], ticks-j.from)
	}
	return longest
}

// P11.3: if all tasks of a priority or a higher one have a response, no release of them takes longer.
func TestReleasesAreDoneInTime(t *testing.T) {
	dice := rand.New(rand.NewSource(117))
	reached, runs := 0, 0
	for range 1500 {
		x := tiny(dice, 14)
		l := some(dice, 1+dice.Intn(5), 60)
		for i := range l {
			l[i].Block = 0 // nothing is delayed by a less urgent task here
		}
		var responses []int
		for i := range l {
			n, _ := meet.Response(x, 0, l, i)
			responses = append(responses, n)
		}
		for range 6 {
			longest := run(dice, x, l, 400, dice.Intn(2)*dice.Intn(20))
			for i, own := range l {
				if !guaranteed(l, responses, own.Priority) {
					continue
				}
				runs++
				if longest[i] > responses[i] {
					t.Fatalf("%v in %v: a release of %d took %d ticks, not %d", l, x, i, longest[i], responses[i])
				}
				if longest[i] == responses[i] {
					reached++
				}
			}
		}
	}
	if runs < 5000 || reached < runs/10 {
		t.Errorf("%d of %d responses were reached", reached, runs)
	}
}

// guaranteed reports whether each task of that priority or a higher one has a response.
func guaranteed(l []meet.Task, responses []int, priority int) bool {
	for i, x := range l {
		if x.Priority >= priority && responses[i] == 0 {
			return false
		}
	}
	return true
}

// P11.3: a less urgent task that may not be interrupted for as many ticks as the block delays a release by no more.
func TestBlocksAreEnough(t *testing.T) {
	dice := rand.New(rand.NewSource(118))
	for range 3000 {
		x := tiny(dice, 14)
		block := 1 + dice.Intn(5)
		own := meet.Task{Priority: 5, Capacity: 1 + dice.Intn(4), Block: block}
		want, e := meet.Response(x, 0, []meet.Task{own, {Priority: 4, Capacity: block}}, 0)
		// A task of its own priority that is ahead of it delays it as much as one that keeps the ticks from it.
		longest := run(dice, x, []meet.Task{own, {Priority: 6, Capacity: block}}, 400, 0)
		if e != api.OK && x.Total(0) > 0 || e == api.OK && longest[0] > want {
			t.Fatalf("in %v: %d ticks, not %d, %d", x, longest[0], want, e)
		}
	}
}
