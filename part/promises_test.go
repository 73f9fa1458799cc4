package part_test

import (
	"math/rand"
	"slices"
	"testing"

	"monocoque/api"
	"monocoque/book"
	"monocoque/calls"
	"monocoque/health"
	"monocoque/image"
	"monocoque/isa"
	"monocoque/part"
	"monocoque/proc"
	"monocoque/space"
)

// fixed returns the words of areas that are not written.
func fixed(c part.Config, v part.View) []uint32 {
	var l []uint32
	before := 0
	for _, a := range c.Areas {
		if !a.Write {
			l = append(l, v.Words[before:before+a.Words]...)
		}
		before += a.Words
	}
	return l
}

// anyWord returns the word of some instruction that does something, or any word.
func anyWord(dice *rand.Rand) uint32 {
	i := isa.Instr{Op: dice.Intn(isa.Ops), A: dice.Intn(8), B: dice.Intn(8), N: dice.Intn(40) - 10}
	if dice.Intn(3) == 0 {
		i = isa.Instr{Op: isa.Set, A: dice.Intn(8), N: []int{codeAt, dataAt, fixedAt, keepAt, stackAt, -1}[dice.Intn(6)] + dice.Intn(8)}
	}
	if i.Op == isa.Trap {
		i.N = dice.Intn(30)
	}
	for _, j := range []isa.Instr{i, {Op: i.Op, A: i.A, B: i.B}, {Op: i.Op, A: i.A}, {Op: i.Op, A: i.A, N: i.N}, {Op: i.Op, N: i.N}} {
		if w, e := isa.Encode(j); e == api.OK {
			return w
		}
	}
	return dice.Uint32()
}

// P34.5 and T5: whatever the code is, no word of an area without Write changes, except that all are those of the image
// again after a start.
func TestWhateverTheCodeIs(t *testing.T) {
	dice := rand.New(rand.NewSource(345))
	stores, restarts := 0, 0
	for range 400 {
		c := part.Config{Areas: []space.Area{
			{From: codeAt, Words: 60, Run: true, Write: dice.Intn(4) == 0}, {From: dataAt, Words: 20, Write: true, Run: true}, {From: fixedAt, Words: 12},
			{From: keepAt, Words: 12, Keep: true}, {From: stackAt, Words: 12, Write: true},
		}, Restarts: 5, Events: 1, Boards: []int{32}, Buffers: []part.Buffer{{Words: 32, Room: 1}}, Ceilings: []int{9}, Ports: []part.Port{{Words: 4}, {Out: true, Words: 4}}}
		code := make([]uint32, 60)
		for i := range code {
			code[i] = anyWord(dice)
		}
		c.Image = image.Image{Sections: []image.Section{{At: codeAt, Words: code}, {At: keepAt, Words: []uint32{1, 2}}, {At: fixedAt, Words: []uint32{3, 4}}}, Entries: []int{0, 20, 40}}
		for i := range 3 {
			c.Tasks = append(c.Tasks, part.Task{Attr: proc.Attr{Priority: 1 + dice.Intn(3), Period: 30, Capacity: 12}, Entry: i, Floor: stackAt, Top: stackAt + 12})
		}
		if dice.Intn(2) == 0 {
			c.Tasks[0].Floor = fixedAt
			c.Tasks[0].Top = fixedAt + 9
		}
		for e := api.ErrArg; e <= api.ErrFlow; e++ {
			c.Rules = append(c.Rules, health.Rule{Error: e, Level: book.LevelProcess, Do: dice.Intn(4)})
		}
		c.Rules[11] = health.Rule{Error: api.ErrCode, Level: book.LevelPart, Do: book.WarmStart + dice.Intn(2)}
		p := begun(t, c, 0)
		want, before := fixed(c, p.View()), p.View()
		for now := range 200 {
			p.Step(now)
			v := p.View()
			if got := fixed(c, v); !slices.Equal(got, want) {
				t.Fatalf("at %d, the words are %v, want %v", now, got, want)
			}
			if !slices.Equal(v.Words, before.Words) {
				stores++
			}
			if before = v; v.Mode < 3 {
				restarts++
				p.Begin(now + 1)
			}
		}
	}
	if stores < 200 || restarts < 200 {
		t.Error("little was tried:", stores, restarts)
	}
}

// P34.5 and T15: no release uses more ticks than its capacity, and each overrun is reported once.
func TestCapacity(t *testing.T) {
	dice := rand.New(rand.NewSource(15))
	overruns := 0
	for range 200 {
		codes := []string{forever, lines("nop", "div r1 r2", "trap 3"), lines("set r1 3", "mul r1 r1", "trap 3"), lines(ask(calls.Wait, 0, 0, 0, 3), forever), "trap 3"}
		var l []string
		for range 4 {
			l = append(l, codes[dice.Intn(5)])
		}
		c := onError(onError(world(t, l...), api.ErrTime, book.Tell), api.ErrDivide, book.Ignore)
		for i := range c.Tasks {
			c.Tasks[i].Attr = proc.Attr{Priority: 1 + dice.Intn(4), Period: 5 + dice.Intn(40), Capacity: 1 + dice.Intn(9)}
		}
		p := begun(t, c, 0)
		used, late := make([]int, 4), make([]int, 4)
		for now := range 300 {
			r := p.Step(now)
			for _, f := range r.Faults {
				if f.E == api.ErrTime {
					late[f.Process]++
					overruns++
				}
			}
			if r.Ran >= 0 {
				used[r.Ran]++
			}
			for i, task := range c.Tasks {
				if releases := now/task.Attr.Period + 1; used[i] > releases*task.Attr.Capacity || late[i] > releases || late[i]*task.Attr.Capacity > used[i] {
					t.Fatalf("at %d, the process %d has used %d ticks with a capacity of %d, and its overruns were reported %d times", now, i, used[i], task.Attr.Capacity, late[i])
				}
			}
		}
	}
	if overruns < 500 {
		t.Error("only", overruns, "overruns")
	}
}

// T9: with ceilings, no process waits for a lock, as long as none rests, waits or is held that has one.
func TestNobodyWaitsForLocks(t *testing.T) {
	dice := rand.New(rand.NewSource(9))
	taken, refused := 0, 0
	for range 300 {
		var l []string
		most := 1 + dice.Intn(6)
		for range 2 + dice.Intn(4) {
			var code []string
			for range 3 + dice.Intn(6) {
				call := calls.Take
				if dice.Intn(3) == 0 {
					call = calls.Give
				}
				if code = append(code, ask(call, dice.Intn(4), 0, 0, -1)); dice.Intn(2) == 0 {
					code = append(code, "set r7 1", "div r7 r7")
				}
			}
			l = append(l, lines(append(code, "trap 3")...))
		}
		c := world(t, l...)
		c.Ceilings = []int{most, most, max(1, most-1), most}
		for i := range c.Tasks {
			c.Tasks[i].Attr = proc.Attr{Priority: 1 + dice.Intn(most), Period: 60 + dice.Intn(90), Offset: dice.Intn(30)}
		}
		p := begun(t, c, 0)
		for now := range 300 {
			r := p.Step(now)
			if slices.Contains(p.View().States, proc.Waiting) {
				t.Fatalf("at %d, the states are %v", now, p.View().States)
			}
			if r.Call == calls.Take && r.E == api.OK {
				taken++
			} else if r.Call == calls.Take {
				refused++
			}
		}
	}
	if taken < 1000 || refused < 100 {
		t.Error("little was tried:", taken, refused)
	}
}

// T16: an error of each number causes the action of its rule, and nothing else.
func TestActionOfRule(t *testing.T) {
	for e := api.ErrArg; e <= api.ErrFlow; e++ {
		for do := range 7 {
			c := onError(world(t, lines(ask(calls.Fail, 0, int(e)), forever), forever), e, do)
			p := begun(t, c, 0)
			after(p, 0, 3)
			r := p.Step(3)
			mode := []int{3, 3, 3, 3, 2, 1, 0}[do]
			if !sameReport(r, part.Report{Ran: 0, Call: calls.Fail, Mode: mode, Faults: []part.Fault{{Process: 0, E: e, Do: do}}}) {
				t.Errorf("the Report is %v", r)
			}
			states(t, p, []int{1, 1, 0, 1, 0, 0, 0}[do], []int{1, 1, 1, 1, 0, 0, 0}[do])
			if do == book.RestartProcess {
				runs(t, p, 4, 1, 1) // the process 0 is behind the other one now
			}
		}
	}
}
