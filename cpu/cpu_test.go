package cpu_test

import (
	"maps"
	"math"
	"math/rand"
	"slices"
	"testing"

	"monocoque/api"
	"monocoque/cpu"
	"monocoque/isa"
	"monocoque/space"
)

// The chapter's examples.
func TestExamples(t *testing.T) {
	s, _ := space.New([]space.Area{{From: 0, Words: 8, Run: true}})
	s.Fill(0, assemble(t, "set r1 5\nmul r1 r1\ntrap 9"))
	r, count, ticks, ev := cpu.Run(cpu.Fresh(0, 0, 0), s, 100)
	want := cpu.Regs{R: [16]uint32{1: 25}, Pc: 3}
	if r != want || count != 3 || ticks != 5 || ev != (cpu.Event{Ticks: 1, Call: 9}) {
		t.Error(r, count, ticks, ev)
	}
	s.Fill(0, []uint32{word(t, isa.Instr{Op: isa.Loop, B: 1, N: 3}), word(t, isa.Instr{Op: isa.Addn, A: 2, N: 2})})
	r, count, ticks, ev = cpu.Run(cpu.Fresh(0, 0, 0), s, 4)
	want = cpu.Regs{R: [16]uint32{2: 6}, Pc: 2}
	if r != want || count != 4 || ticks != 4 || ev != (cpu.Event{Ticks: 1, Call: -1}) {
		t.Error(r, count, ticks, ev)
	}
}

// P15.1: registers of which the chapter tells each field, whatever the places are.
func TestFresh(t *testing.T) {
	for _, l := range [][3]uint32{{}, {1, 2, 3}, {7, 100, 164}, {math.MaxUint32, math.MaxUint32, 5}, {5, 9, 3}} {
		want := cpu.Regs{Pc: l[0], Floor: l[1], Top: l[2], Sp: l[2]}
		if got := cpu.Fresh(l[0], l[1], l[2]); got != want {
			t.Errorf("Fresh(%v) = %v", l, got)
		}
	}
}

// P15.2: what each operation does with words, and its ticks; all other registers stay.
func TestWords(t *testing.T) {
	const most = math.MaxUint32
	for _, c := range []struct {
		op    int
		a, b  uint32
		n     int
		want  uint32
		ticks int
		what  string
	}{
		{isa.Nop, 7, 0, 0, 7, 1, "nothing"},
		{isa.Set, 7, 0, 5, 5, 1, ""},
		{isa.Set, 7, 0, -1, most, 1, "negative"},
		{isa.Set, 7, 0, -1 << 18, 0xFFFC0000, 1, "least"},
		{isa.Set, 7, 0, 1<<18 - 1, 0x3FFFF, 1, "most"},
		{isa.Move, 7, 9, 0, 9, 1, ""},
		{isa.Add, 7, 9, 0, 16, 1, ""},
		{isa.Add, most, 2, 0, 1, 1, "wraps"},
		{isa.Addn, 7, 0, 9, 16, 1, ""},
		{isa.Addn, 7, 0, -9, most - 1, 1, "wraps"},
		{isa.Addn, most, 0, 3, 2, 1, "wraps"},
		{isa.Sub, 9, 7, 0, 2, 1, ""},
		{isa.Sub, 7, 9, 0, most - 1, 1, "wraps"},
		{isa.Mul, 7, 9, 0, 63, 3, ""},
		{isa.Mul, 1 << 16, 1 << 16, 0, 0, 3, "wraps"},
		{isa.Mul, most, most, 0, 1, 3, "wraps"},
		{isa.Div, 64, 9, 0, 7, 8, "down"},
		{isa.Div, most, 2, 0, 1<<31 - 1, 8, "no sign"},
		{isa.Div, 5, most, 0, 0, 8, ""},
		{isa.Div, 0, 5, 0, 0, 8, ""},
		{isa.And, 0xF0F0, 0xFF00, 0, 0xF000, 1, ""},
		{isa.Or, 0xF0F0, 0xFF00, 0, 0xFFF0, 1, ""},
		{isa.Xor, 0xF0F0, 0xFF00, 0, 0x0FF0, 1, ""},
		{isa.Shl, 0x80000003, 0, 0, 0x80000003, 1, "by none"},
		{isa.Shl, 0x80000003, 0, 1, 6, 1, ""},
		{isa.Shl, 3, 0, 31, 1 << 31, 1, "most"},
		{isa.Shr, 0x80000003, 0, 0, 0x80000003, 1, "by none"},
		{isa.Shr, 0x80000003, 0, 1, 0x40000001, 1, "no sign"},
		{isa.Shr, 0xC0000000, 0, 31, 1, 1, "most"},
	} {
		i := isa.Instr{Op: c.op, A: 3, B: 12, N: c.n}
		if _, e := isa.Encode(i); e != api.OK {
			i.B = 0
		}
		if _, e := isa.Encode(i); e != api.OK {
			i.A = 0
		}
		r := cpu.Regs{Pc: 40, Sp: 9, Floor: 3, Top: 11}
		for n := range r.R {
			r.R[n] = 1000 + uint32(n)
		}
		r.R[3], r.R[12] = c.a, c.b
		want := r
		want.R[3], want.Pc = c.want, 41
		steps(t, c.what, r, codeAt(40, word(t, i)), want, cpu.Event{Ticks: c.ticks, Call: -1})
	}
}

// P15.2: an operation on one register alone.
func TestSameRegister(t *testing.T) {
	for op, want := range map[int]uint32{isa.Move: 6, isa.Add: 12, isa.Sub: 0, isa.Mul: 36, isa.Div: 1, isa.And: 6, isa.Or: 6, isa.Xor: 0} {
		r := cpu.Regs{R: [16]uint32{15: 6}}
		after := cpu.Regs{R: [16]uint32{15: want}, Pc: 1}
		steps(t, "same", r, codeAt(0, word(t, isa.Instr{Op: op, A: 15, B: 15})), after, cpu.Event{Ticks: isa.Price(op), Call: -1})
	}
}

// P15.2: loads and stores, at places modulo 2^32.
func TestMemory(t *testing.T) {
	for _, c := range []struct {
		b  uint32
		n  int
		at uint32
	}{{50, 0, 50}, {50, 7, 57}, {50, -7, 43}, {2, -3, math.MaxUint32}, {math.MaxUint32, 2, 1}, {1 << 31, -1 << 18, 1<<31 - 1<<18}} {
		m := codeAt(200, word(t, isa.Instr{Op: isa.Load, A: 3, B: 4, N: c.n}), word(t, isa.Instr{Op: isa.Store, A: 5, B: 4, N: c.n}))
		m.words[c.at] = 77
		r := cpu.Regs{R: [16]uint32{4: c.b, 5: 88}, Pc: 200}
		want := r
		want.R[3], want.Pc = 77, 201
		steps(t, "load", r, m, want, cpu.Event{Ticks: 2, Call: -1})
		r.Pc, want = 201, r
		want.Pc = 202
		steps(t, "store", r, m, want, cpu.Event{Ticks: 2, Call: -1})
		if m.words[c.at] != 88 || !slices.Equal(m.stored, []uint32{c.at}) {
			t.Errorf("stored at %v, want %d", m.stored, c.at)
		}
	}
}

// P15.2: where execution continues after jumps, whatever registers that do not matter are.
func TestJumps(t *testing.T) {
	const most = math.MaxUint32
	for _, c := range []struct {
		op    int
		a, at uint32
		n     int
		goal  uint32
	}{
		{isa.Jump, 0, 40, 5, 46}, {isa.Jump, 9, 40, -1, 40}, {isa.Jump, 0, 40, -41, 0},
		{isa.Jump, 0, 40, -42, most}, {isa.Jump, 0, most, 0, 0}, {isa.Jump, 0, most - 1, 3, 2},
		{isa.Jz, 0, 40, 5, 46}, {isa.Jz, 1, 40, 5, 41}, {isa.Jz, 1 << 31, 40, 5, 41}, {isa.Jz, 0, 40, -3, 38},
		{isa.Jnz, 0, 40, 5, 41}, {isa.Jnz, 1, 40, 5, 46}, {isa.Jnz, 1 << 31, 40, -41, 0}, {isa.Jnz, 0, most, -3, 0},
		{isa.Nop, 0, most, 0, 0},
	} {
		i := isa.Instr{Op: c.op, A: 6, N: c.n}
		if c.op == isa.Jump || c.op == isa.Nop {
			i.A = 0
		}
		r := cpu.Regs{R: [16]uint32{6: c.a, 0: c.a}, Pc: c.at}
		want := r
		want.Pc = c.goal
		steps(t, "jump", r, codeAt(c.at, word(t, i)), want, cpu.Event{Ticks: 1, Call: -1})
	}
}

// P15.2: call, ret, push and pop, from a full stack to an empty one.
func TestStack(t *testing.T) {
	m := codeAt(10, word(t, isa.Instr{Op: isa.Call, N: 30}), word(t, isa.Instr{Op: isa.Ret}), word(t, isa.Instr{Op: isa.Push, A: 7}), word(t, isa.Instr{Op: isa.Pop, A: 8}))
	for at := uint32(60); at < 64; at++ {
		m.words[at] = 0
	}
	r := cpu.Regs{R: [16]uint32{7: 99, 8: 5}, Floor: 60, Top: 64}
	at := func(pc, sp uint32) cpu.Regs {
		r := r
		r.Pc, r.Sp = pc, sp
		return r
	}
	two := cpu.Event{Ticks: 2, Call: -1}
	for sp := uint32(61); sp <= 64; sp++ {
		m.words[sp-1] = 0
		steps(t, "call", at(10, sp), m, at(30, sp-1), two)
		if m.words[sp-1] != 11 {
			t.Errorf("call keeps %d", m.words[sp-1])
		}
		steps(t, "ret", at(11, sp-1), m, at(11, sp), two)
		steps(t, "push", at(12, sp), m, at(13, sp-1), two)
		if m.words[sp-1] != 99 {
			t.Errorf("push keeps %d", m.words[sp-1])
		}
		want := at(14, sp)
		want.R[8] = 99
		steps(t, "pop", at(13, sp-1), m, want, two)
		steps(t, "ret", at(11, sp-1), m, at(99, sp), two)
	}
	for op, sps := range map[int][]uint32{10: {60, 59, 0, 65, 66, math.MaxUint32}, 12: {60, 59, 0, 65}, 11: {64, 65, math.MaxUint32, 59, 0}, 13: {64, 65, 59, 0}} {
		for _, sp := range sps {
			r := at(uint32(op), sp)
			steps(t, "beyond the stack", r, m, r, cpu.Event{Ticks: 2, Call: -1, E: api.ErrStack})
		}
	}
}

// P15.2: a call from the last place returns to the first one.
func TestCallWraps(t *testing.T) {
	m := codeAt(math.MaxUint32, word(t, isa.Instr{Op: isa.Call, N: 4}))
	m.words[9] = 7
	r := cpu.Regs{Pc: math.MaxUint32, Sp: 10, Floor: 9, Top: 10}
	want := cpu.Regs{Pc: 4, Sp: 9, Floor: 9, Top: 10}
	steps(t, "call", r, m, want, cpu.Event{Ticks: 2, Call: -1})
	if m.words[9] != 0 {
		t.Errorf("returns to %d", m.words[9])
	}
}

// P15.2: a trap requests its call, which may be any, after which Pc is the next place.
func TestTrap(t *testing.T) {
	for _, n := range []int{0, 3, 27, 1<<18 - 1} {
		steps(t, "trap", cpu.Regs{Pc: 5}, codeAt(5, word(t, isa.Instr{Op: isa.Trap, N: n})), cpu.Regs{Pc: 6}, cpu.Event{Ticks: 1, Call: n})
	}
}

// P15.2: a loop becomes active; its fields, with all bodies that it may have.
func TestLoop(t *testing.T) {
	for _, i := range []isa.Instr{{A: 0, B: 1, N: 1}, {A: 1, B: 0, N: 2}, {A: 15, B: 15, N: 1<<18 - 1}} {
		for _, at := range []uint32{0, 70, math.MaxUint32, math.MaxUint32 - 1} {
			for depth := range 8 {
				i.Op = isa.Loop
				r := cpu.Regs{Pc: at, Depth: depth}
				for n := range depth {
					r.Loops[n] = cpu.Loop{From: 1, End: at + 7, Left: n}
				}
				want := r
				want.Pc, want.Depth = at+1, depth+1
				want.Loops[depth] = cpu.Loop{From: at + 1, End: at + 1 + uint32(16*i.A+i.B), Left: i.N - 1}
				steps(t, "loop", r, codeAt(at, word(t, i)), want, cpu.Event{Ticks: 1, Call: -1})
			}
		}
	}
}

// P15.2: what becomes of the loops that end where an instruction leads, however it comes there.
func TestLoopEnds(t *testing.T) {
	loops := func(l ...cpu.Loop) (r cpu.Regs) {
		r.Depth = copy(r.Loops[:], l)
		return r
	}
	type l = cpu.Loop
	for _, c := range []struct {
		what         string
		before, want cpu.Regs
		pc           uint32
	}{
		{"repeats", loops(l{5, 21, 3}), loops(l{5, 21, 2}), 5},
		{"repeats for the last time", loops(l{5, 21, 1}), loops(l{5, 21, 0}), 5},
		{"is over", loops(l{5, 21, 0}), loops(), 21},
		{"negative", loops(l{5, 21, -1}), loops(l{5, 21, -2}), 5},
		{"wraps", loops(l{5, 21, math.MinInt}), loops(l{5, 21, math.MaxInt}), 5},
		{"ends elsewhere", loops(l{5, 22, 0}), loops(l{5, 22, 0}), 21},
		{"ends at the instruction", loops(l{5, 20, 0}), loops(l{5, 20, 0}), 21},
		{"begins there", loops(l{21, 22, 4}), loops(l{21, 22, 4}), 21},
		{"only the innermost", loops(l{5, 21, 3}, l{6, 22, 0}), loops(l{5, 21, 3}, l{6, 22, 0}), 21},
		{"both are over", loops(l{5, 21, 0}, l{6, 21, 0}), loops(), 21},
		{"inner one is over", loops(l{5, 21, 3}, l{6, 21, 0}), loops(l{5, 21, 2}), 5},
		{"inner one repeats", loops(l{5, 21, 0}, l{6, 21, 1}), loops(l{5, 21, 0}, l{6, 21, 0}), 6},
		{"two of three", loops(l{5, 30, 0}, l{6, 21, 0}, l{7, 21, 0}), loops(l{5, 30, 0}), 21},
		{"repeats at its end", loops(l{21, 21, 3}), loops(l{21, 21, 2}), 21},
		{"repeats at the end of another one", loops(l{5, 6, 0}, l{6, 21, 1}), loops(l{5, 6, 0}, l{6, 21, 0}), 6},
		{"all eight", loops(slices.Repeat([]l{{5, 21, 0}}, 8)...), loops(), 21},
		{"all zero", loops(l{0, 0, 0}), loops(l{0, 0, 0}), 21},
	} {
		m := codeAt(20, word(t, isa.Instr{}))
		c.before.Pc, c.want.Pc = 20, c.pc
		steps(t, c.what, c.before, m, c.want, cpu.Event{Ticks: 1, Call: -1})
		m = codeAt(900, word(t, isa.Instr{Op: isa.Jump, N: 21 - 901}))
		c.before.Pc = 900
		steps(t, c.what+", by a jump", c.before, m, c.want, cpu.Event{Ticks: 1, Call: -1})
		m = codeAt(900, word(t, isa.Instr{Op: isa.Ret}), 21)
		c.before.Sp, c.before.Top, c.want.Sp, c.want.Top = 901, 902, 902, 902
		steps(t, c.what+", by a ret", c.before, m, c.want, cpu.Event{Ticks: 2, Call: -1})
		m = codeAt(900, word(t, isa.Instr{Op: isa.Call, N: 21}), 0)
		c.before.Sp, c.want.Sp = 902, 901
		steps(t, c.what+", by a call", c.before, m, c.want, cpu.Event{Ticks: 2, Call: -1})
		m = codeAt(20, word(t, isa.Instr{Op: isa.Trap, N: 4}))
		c.before.Pc = 20
		c.want.Sp = 902
		steps(t, c.what+", by a trap", c.before, m, c.want, cpu.Event{Ticks: 1, Call: 4})
	}
}

// P15.2: the first loop that is over leaves a place for another one.
func TestLoopAgain(t *testing.T) {
	m := codeAt(0, assemble(t, "loop a 2\nloop a 3\naddn r1 1\na: loop b 2\naddn r2 1\naddn r2 2\nb: trap 0")...)
	r, count, ticks, ev := cpu.Run(cpu.Regs{}, m, 1000)
	want := cpu.Regs{R: [16]uint32{1: 6, 2: 6}, Pc: 7}
	if r != want || count != 1+2*(1+3)+1+4+1 || ticks != count || ev != (cpu.Event{Ticks: 1, Call: 0}) {
		t.Error(r, count, ticks, ev)
	}
}

// P15.2: each error, of which the first one is returned; nothing changes.
func TestErrors(t *testing.T) {
	at := func(i isa.Instr) *memory { return codeAt(40, word(t, i)) }
	own := func(i isa.Instr, change func(m *memory)) *memory {
		m := at(i)
		change(m)
		return m
	}
	load, store := isa.Instr{Op: isa.Load, A: 1, B: 2, N: 3}, isa.Instr{Op: isa.Store, A: 1, B: 2, N: 3}
	push, pop, call, ret := isa.Instr{Op: isa.Push}, isa.Instr{Op: isa.Pop}, isa.Instr{Op: isa.Call}, isa.Instr{Op: isa.Ret}
	loop := isa.Instr{Op: isa.Loop, B: 1, N: 1}
	fine := func(r *cpu.Regs) {}
	deep := func(n int) func(r *cpu.Regs) { return func(r *cpu.Regs) { r.Depth = n } }
	sp := func(n uint32) func(r *cpu.Regs) { return func(r *cpu.Regs) { r.Sp = n } }
	refuse := func(m *memory) {
		for _, n := range []uint32{40, 53, 59, 60} {
			m.words[n] = m.words[n]
			m.loads[n], m.keeps[n] = api.ErrLost, api.ErrOld
		}
	}
	for what, c := range map[string]struct {
		m      *memory
		change func(r *cpu.Regs)
		ticks  int
		e      api.Errno
	}{
		"no word":                {codeAt(41, 0), fine, 1, noWord},
		"error of Fetch":         {own(load, func(m *memory) { m.fetches[40] = api.ErrLost }), fine, 1, api.ErrLost},
		"no instruction":         {codeAt(40, 24<<27), fine, 1, api.ErrCode},
		"unused bits":            {codeAt(40, 1), fine, 1, api.ErrCode},
		"depth -1":               {at(isa.Instr{}), deep(-1), 1, api.ErrState},
		"depth 9":                {at(isa.Instr{}), deep(9), 1, api.ErrState},
		"depth most":             {at(isa.Instr{}), deep(math.MaxInt), 1, api.ErrState},
		"depth least":            {at(isa.Instr{}), deep(math.MinInt), 1, api.ErrState},
		"depth and no word":      {codeAt(41, 0), deep(9), 1, api.ErrState},
		"depth and code":         {codeAt(40, 1), deep(-1), 1, api.ErrState},
		"divided by 0":           {at(isa.Instr{Op: isa.Div, A: 1, B: 9}), fine, 8, api.ErrDivide},
		"0 divided by 0":         {at(isa.Instr{Op: isa.Div, A: 9, B: 9}), fine, 8, api.ErrDivide},
		"load":                   {at(load), fine, 2, noWord},
		"load with an error":     {own(load, refuse), fine, 2, api.ErrLost},
		"store":                  {at(store), fine, 2, noWord},
		"store with an error":    {own(store, refuse), fine, 2, api.ErrOld},
		"ninth loop":             {at(loop), deep(8), 1, api.ErrDeep},
		"push on a full stack":   {own(push, refuse), sp(55), 2, api.ErrStack},
		"push below the floor":   {own(push, refuse), sp(54), 2, api.ErrStack},
		"push at 0":              {own(push, refuse), sp(0), 2, api.ErrStack},
		"push above the top":     {own(push, refuse), sp(61), 2, api.ErrStack},
		"push with an error":     {own(push, refuse), sp(60), 2, api.ErrOld},
		"push without a word":    {at(push), sp(58), 2, noWord},
		"call on a full stack":   {own(call, refuse), sp(55), 2, api.ErrStack},
		"call above the top":     {own(call, refuse), sp(61), 2, api.ErrStack},
		"call with an error":     {own(call, refuse), sp(60), 2, api.ErrOld},
		"call without a word":    {at(call), sp(58), 2, noWord},
		"pop of an empty stack":  {own(pop, refuse), sp(60), 2, api.ErrStack},
		"pop above the top":      {own(pop, refuse), sp(61), 2, api.ErrStack},
		"pop below the floor":    {own(pop, refuse), sp(54), 2, api.ErrStack},
		"pop with an error":      {own(pop, refuse), sp(59), 2, api.ErrLost},
		"pop without a word":     {at(pop), sp(57), 2, noWord},
		"ret with an empty one":  {own(ret, refuse), sp(60), 2, api.ErrStack},
		"ret below the floor":    {own(ret, refuse), sp(54), 2, api.ErrStack},
		"ret with an error":      {own(ret, refuse), sp(59), 2, api.ErrLost},
		"ret without a word":     {at(ret), sp(57), 2, noWord},
		"load of the last place": {at(isa.Instr{Op: isa.Load, A: 2, B: 9, N: -1}), fine, 2, noWord},
	} {
		r := cpu.Regs{R: [16]uint32{1: 5, 2: 50}, Pc: 40, Sp: 58, Floor: 55, Top: 60}
		r.Depth, r.Loops[0], r.Loops[7] = 1, cpu.Loop{From: 3, End: 41, Left: 2}, cpu.Loop{From: 8, End: 41}
		c.change(&r)
		kept := maps.Clone(c.m.words)
		steps(t, what, r, c.m, r, cpu.Event{Ticks: c.ticks, Call: -1, E: c.e})
		if !maps.Equal(kept, c.m.words) {
			t.Errorf("%s: the memory changes", what)
		}
	}
}

// P15.2: no memory, whatever the registers are; and a Space that is nil, all of whose places have no words.
func TestNoMemory(t *testing.T) {
	for _, depth := range []int{0, 3, 9, -1} {
		r := cpu.Regs{R: [16]uint32{4}, Pc: 3, Depth: depth}
		steps(t, "nil", r, nil, r, cpu.Event{Call: -1, E: api.ErrArg})
	}
	r := cpu.Regs{Pc: 3}
	steps(t, "nil space", r, (*space.Space)(nil), r, cpu.Event{Ticks: 1, Call: -1, E: api.ErrRange})
}

// P15.2, P15.4: all instructions on registers of all sorts, by the chapter's words.
func TestAgainstTheChapter(t *testing.T) {
	dice := rand.New(rand.NewSource(1))
	met := map[api.Errno]int{}
	for range 400000 {
		r := someRegs(dice)
		m := newMemory(map[uint32]uint32{})
		for range 16 {
			m.words[near(dice)] = near(dice)
		}
		if dice.Intn(20) > 0 {
			m.words[r.Pc] = word(t, some(dice))
		}
		if dice.Intn(4) == 0 {
			at := near(dice)
			m.loads[at], m.keeps[at] = api.ErrLost, api.ErrRights
		}
		model := m.clone()
		want, event := slowStep(r, model)
		got, ev := cpu.Step(r, m)
		if got != want || ev != event || !maps.Equal(m.words, model.words) {
			t.Fatalf("Step(%v) at %x = %v, %v, want %v, %v", r, m.words[r.Pc], got, ev, want, event)
		}
		met[ev.E]++
		tellStores(t, r, ev, m)
	}
	for _, e := range []api.Errno{api.OK, api.ErrState, api.ErrCode, api.ErrRange, api.ErrRights, api.ErrLost, api.ErrDivide, api.ErrDeep, api.ErrStack} {
		if met[e] < 100 {
			t.Errorf("the error %d was met only %d times", e, met[e])
		}
	}
}

// tellStores tells whether a step stored what it may: one word, nothing with an error, and what is pushed within the stack.
func tellStores(t *testing.T, r cpu.Regs, ev cpu.Event, m *memory) {
	t.Helper()
	if len(m.stored) > 1 || ev.E != api.OK && len(m.stored) > 0 {
		t.Fatalf("stores at %v, event %v", m.stored, ev)
	}
	i, _ := isa.Decode(m.words[r.Pc])
	pushes := i.Op == isa.Push || i.Op == isa.Call
	for _, at := range m.stored {
		if pushes && (at < r.Floor || at >= r.Top) {
			t.Fatalf("pushes at %d, stack %d to %d", at, r.Floor, r.Top)
		}
	}
}

// P15.2: loops that are not active have no effect.
func TestIdleLoops(t *testing.T) {
	r := cpu.Regs{Pc: 20}
	for n := range r.Loops {
		r.Loops[n] = cpu.Loop{From: 5, End: 21, Left: n}
	}
	want := r
	want.Pc = 21
	steps(t, "none is active", r, codeAt(20, 0), want, cpu.Event{Ticks: 1, Call: -1})
}

// P15.3: as many steps as are asked for, or up to a call or an error.
func TestRun(t *testing.T) {
	code := assemble(t, "set r1 2\nmul r1 r1\npush r1\npop r2\ndiv r2 r1\ntrap 5\nset r3 9\ndiv r3 r4")
	m := codeAt(0, code...)
	m.words[50] = 0
	fresh := cpu.Fresh(0, 50, 51)
	last := func(ticks, call int, e api.Errno) cpu.Event { return cpu.Event{Ticks: ticks, Call: call, E: e} }
	for _, c := range []struct {
		pc                 uint32
		most, count, ticks int
		last               cpu.Event
	}{
		{0, math.MinInt, 0, 0, last(0, -1, 0)},
		{0, -1, 0, 0, last(0, -1, 0)},
		{0, 0, 0, 0, last(0, -1, 0)},
		{0, 1, 1, 1, last(1, -1, 0)},
		{0, 2, 2, 4, last(3, -1, 0)},
		{0, 4, 4, 8, last(2, -1, 0)},
		{0, 5, 5, 16, last(8, -1, 0)},
		{0, 6, 6, 17, last(1, 5, 0)},
		{0, 7, 6, 17, last(1, 5, 0)},
		{0, math.MaxInt, 6, 17, last(1, 5, 0)},
		{5, 1, 1, 1, last(1, 5, 0)},
		{6, 1, 1, 1, last(1, -1, 0)},
		{6, 2, 2, 9, last(8, -1, api.ErrDivide)},
		{6, 3, 2, 9, last(8, -1, api.ErrDivide)},
		{7, 9, 1, 8, last(8, -1, api.ErrDivide)},
		{8, 0, 0, 0, last(0, -1, 0)},
		{8, 1, 1, 1, last(1, -1, noWord)},
	} {
		r := fresh
		r.Pc = c.pc
		want, model := r, m.clone()
		for range c.count {
			want, _ = slowStep(want, model)
		}
		got, count, ticks, ev := cpu.Run(r, m.clone(), c.most)
		if got != want || count != c.count || ticks != c.ticks || ev != c.last {
			t.Errorf("Run from %d, %d = %v, %d, %d, %v", c.pc, c.most, got, count, ticks, ev)
		}
	}
}

// P15.3: no memory, and registers that may not be: one instruction, that has an error, was executed.
func TestRunNoMemory(t *testing.T) {
	r := cpu.Regs{Pc: 3}
	if got, count, ticks, ev := cpu.Run(r, nil, 5); got != r || count != 1 || ticks != 0 || ev != (cpu.Event{Call: -1, E: api.ErrArg}) {
		t.Error(got, count, ticks, ev)
	}
	if got, count, ticks, ev := cpu.Run(r, nil, 0); got != r || count != 0 || ticks != 0 || ev != (cpu.Event{Call: -1}) {
		t.Error(got, count, ticks, ev)
	}
	r.Depth = 9
	if got, count, ticks, ev := cpu.Run(r, codeAt(3, 0), 5); got != r || count != 1 || ticks != 1 || ev != (cpu.Event{Ticks: 1, Call: -1, E: api.ErrState}) {
		t.Error(got, count, ticks, ev)
	}
}

// P15.3: Run is Step again and again, for code of all sorts.
func TestRunIsSteps(t *testing.T) {
	dice := rand.New(rand.NewSource(2))
	for range 20000 {
		m := newMemory(map[uint32]uint32{})
		for at := range uint32(8) {
			m.words[100+at] = word(t, some(dice))
		}
		r := someRegs(dice)
		r.Pc, r.Floor, r.Top, r.Sp = 100, 104, 108, 108
		most := dice.Intn(30)
		model, want, count, ticks, last := m.clone(), r, 0, 0, cpu.Event{Call: -1}
		for count < most && last.Call == -1 && last.E == api.OK {
			want, last = slowStep(want, model)
			count, ticks = count+1, ticks+last.Ticks
		}
		got, n, sum, ev := cpu.Run(r, m, most)
		if got != want || n != count || sum != ticks || ev != last || !maps.Equal(m.words, model.words) {
			t.Fatalf("Run(%v, %d) = %v, %d, %d, %v, want %v, %d, %d, %v", r, most, got, n, sum, ev, want, count, ticks, last)
		}
	}
}

// P15.4: whatever the code is, nothing is stored where the memory rejects it, and one step changes at most one word.
func TestAnyCode(t *testing.T) {
	dice := rand.New(rand.NewSource(3))
	areas := []space.Area{{From: 98, Words: 6, Run: true}, {From: 104, Words: 6, Run: true, Write: true}, {From: 0, Words: 4}}
	for range 5000 {
		s, _ := space.New(areas)
		for at := range uint32(12) {
			w := word(t, some(dice))
			if dice.Intn(40) == 0 {
				w = dice.Uint32()
			}
			s.Fill(98+at, []uint32{w})
		}
		r := someRegs(dice)
		r.Pc = 100 + uint32(dice.Intn(8))
		for range 30 {
			before := s.Words()
			var ev cpu.Event
			r, ev = cpu.Step(r, s)
			changed := 0
			for n, w := range s.Words() {
				if w != before[n] {
					changed++
					if n < 6 || n >= 12 {
						t.Fatalf("the word %d changes", n)
					}
				}
			}
			if changed > 1 || ev.E != api.OK && changed > 0 {
				t.Fatalf("%d words change", changed)
			}
		}
	}
}

// P15.3: a jump to itself is executed as often as is asked for.
func TestEndlessCode(t *testing.T) {
	r := cpu.Regs{Pc: 7}
	got, count, ticks, ev := cpu.Run(r, codeAt(7, word(t, isa.Instr{Op: isa.Jump, N: -1})), 100000)
	if got != r || count != 100000 || ticks != 100000 || ev != (cpu.Event{Ticks: 1, Call: -1}) {
		t.Error(got, count, ticks, ev)
	}
}
