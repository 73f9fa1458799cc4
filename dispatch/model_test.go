package dispatch_test

import (
	"math/rand"
	"slices"
	"testing"

	"monocoque/api"
	"monocoque/dispatch"
	"monocoque/proc"
)

// call is a method with its numbers.
type call struct {
	name string
	i, n int
}

func (c call) on(d *dispatch.Dispatch) api.Errno {
	switch c.name {
	case "Start":
		return d.Start(c.i, c.n)
	case "Stop":
		return d.Stop(c.i)
	case "Suspend":
		return d.Suspend(c.i)
	case "Resume":
		return d.Resume(c.i)
	case "Wait":
		return d.Wait(c.i, c.n)
	case "Wake":
		return d.Wake(c.i)
	case "Done":
		return d.Done(c.i, c.n)
	case "SetPriority":
		return d.SetPriority(c.i, c.n)
	case "Raise":
		return d.Raise(c.i, c.n)
	case "Yield":
		return d.Yield(c.i)
	case "Charge":
		return d.Charge(c.i, c.n)
	}
	panic(c.name)
}

func (c call) onModel(m *model) api.Errno {
	switch c.name {
	case "Start":
		return m.do(c.i, func(x *proc.Table) api.Errno { return x.Start(c.i, c.n) })
	case "Stop":
		return m.do(c.i, func(x *proc.Table) api.Errno { return x.Stop(c.i) })
	case "Suspend":
		return m.do(c.i, func(x *proc.Table) api.Errno { return x.Suspend(c.i) })
	case "Resume":
		return m.do(c.i, func(x *proc.Table) api.Errno { return x.Resume(c.i) })
	case "Wait":
		return m.do(c.i, func(x *proc.Table) api.Errno { return x.Wait(c.i, c.n) })
	case "Wake":
		return m.do(c.i, func(x *proc.Table) api.Errno { return x.Wake(c.i) })
	case "Done":
		return m.done(c.i, c.n)
	case "SetPriority", "Raise":
		return m.prioritize(c.i, c.n, c.name == "Raise")
	case "Yield":
		return m.yield(c.i)
	case "Charge":
		return m.do(c.i, func(x *proc.Table) api.Errno { return x.Charge(c.i, c.n) })
	}
	panic(c.name)
}

var names = []string{"Start", "Start", "Start", "Stop", "Suspend", "Resume", "Resume", "Wait", "Wait", "Wake", "Done", "Done",
	"SetPriority", "SetPriority", "Raise", "Raise", "Yield", "Yield", "Charge"}

// some returns a call with numbers that mostly may be, around now.
func some(dice *rand.Rand, processes, now int) call {
	c := call{names[dice.Intn(len(names))], dice.Intn(processes+1) - dice.Intn(2), now}
	switch c.name {
	case "Wait":
		c.n = now + dice.Intn(8) - 2
	case "Charge":
		c.n = dice.Intn(4) - dice.Intn(2)
	case "SetPriority", "Raise":
		c.n = dice.Intn(4)
	}
	switch dice.Intn(80) {
	case 0:
		c.n = wrongTicks[dice.Intn(len(wrongTicks))]
	case 1:
		c.n = last
	}
	return c
}

// someAttrs returns a few processes, whose times are short and whose priorities are few.
func someAttrs(dice *rand.Rand, most int) []proc.Attr {
	var l []proc.Attr
	for range dice.Intn(most + 1) {
		l = append(l, proc.Attr{
			Priority: 1 + dice.Intn(3), Period: dice.Intn(6), Capacity: dice.Intn(4), Deadline: dice.Intn(5), Offset: dice.Intn(2) * dice.Intn(4),
		})
	}
	return l
}

// matches tells whether a Dispatch is what the model is, and that what it picks is ready and of the greatest priority.
func (m *model) matches(t *testing.T, d *dispatch.Dispatch) {
	t.Helper()
	queue(t, d, m.queue()...)
	x := d.Table()
	if !x.Same(m.x) {
		t.Error("another Table")
	}
	i, picked := d.Pick()
	if picked && x.State(i) != proc.Ready {
		t.Errorf("Pick() = %d, which is not ready", i)
	}
	for j := range x.Len() {
		if x.State(j) == proc.Ready && (!picked || x.Current(j) > x.Current(i)) {
			t.Errorf("Pick() = %d, %v, but %d is ready and greater", i, picked, j)
		}
	}
}

// P20.1 to P20.6: any calls in any order, against the definition.
func TestAgainstTheDefinition(t *testing.T) {
	dice := rand.New(rand.NewSource(20))
	for range 1500 {
		l := someAttrs(dice, 6)
		d, m := with(t, l...), newModel(t, l)
		now := dice.Intn(5)
		for range 120 {
			c := some(dice, len(l), now)
			if got, want := c.on(d), c.onModel(m); got != want {
				t.Fatalf("%v = %d, want %d", c, got, want)
			}
			m.matches(t, d)
			if dice.Intn(3) == 0 {
				at := now
				if dice.Intn(30) == 0 {
					at = wrongTicks[dice.Intn(len(wrongTicks))]
				}
				woken, late := m.advance(at)
				advances(t, d, at, woken, late)
				m.matches(t, d)
				now += dice.Intn(3)
			}
			if t.Failed() {
				t.Fatalf("after %v", c)
			}
			if dice.Intn(8) == 0 {
				d = d.Clone()
			}
		}
	}
}

// P20.6: who runs and is not touched stays ahead of all of its priority that enter the queue later. (Raise moves those
// that are in it already.)
func TestRunsOnUntouched(t *testing.T) {
	dice := rand.New(rand.NewSource(6))
	times := 0
	for range 300 {
		l := someAttrs(dice, 6)
		d := with(t, l...)
		for now := range 60 {
			for range dice.Intn(6) {
				some(dice, len(l), now).on(d)
			}
			i, picked := d.Pick()
			for range dice.Intn(8) {
				if c := some(dice, len(l), now); picked && c.i != i && c.name != "Raise" {
					c.on(d)
				}
			}
			d.Advance(now)
			x, after := d.Table(), d.Ready()
			if !picked {
				continue
			}
			times++
			for _, j := range after[:slices.Index(after, i)] {
				if x.Current(j) <= x.Current(i) {
					t.Fatalf("%d of the priority %d was first, and now %d of %d is ahead", i, x.Current(i), j, x.Current(j))
				}
			}
		}
	}
	if times < 1000 {
		t.Error("only", times)
	}
}
