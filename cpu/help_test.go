package cpu_test

import (
	"maps"
	"math/rand"
	"testing"

	"monocoque/api"
	"monocoque/cpu"
	"monocoque/isa"
)

// memory has words at some places; others have none. A place may have an error of its own for each use.
type memory struct {
	words                 map[uint32]uint32
	fetches, loads, keeps map[uint32]api.Errno // the errors of Fetch, Load and Store
	stored                []uint32             // the places, in order
}

const noWord = api.ErrRange

func newMemory(words map[uint32]uint32) *memory {
	return &memory{words: words, fetches: map[uint32]api.Errno{}, loads: map[uint32]api.Errno{}, keeps: map[uint32]api.Errno{}}
}

// codeAt returns a memory with these words from a place on.
func codeAt(at uint32, code ...uint32) *memory {
	m := newMemory(map[uint32]uint32{})
	for i, w := range code {
		m.words[at+uint32(i)] = w
	}
	return m
}

func (m *memory) clone() *memory {
	return &memory{words: maps.Clone(m.words), fetches: m.fetches, loads: m.loads, keeps: m.keeps}
}

func (m *memory) read(at uint32, errors map[uint32]api.Errno) (uint32, api.Errno) {
	w, ok := m.words[at]
	switch {
	case errors[at] != api.OK:
		return 0, errors[at]
	case !ok:
		return 0, noWord
	}
	return w, api.OK
}

func (m *memory) Fetch(at uint32) (uint32, api.Errno) { return m.read(at, m.fetches) }

func (m *memory) Load(at uint32) (uint32, api.Errno) { return m.read(at, m.loads) }

func (m *memory) Store(at, w uint32) api.Errno {
	if _, e := m.read(at, m.keeps); e != api.OK {
		return e
	}
	m.words[at] = w
	m.stored = append(m.stored, at)
	return api.OK
}

// word encodes an instruction.
func word(t *testing.T, i isa.Instr) uint32 {
	t.Helper()
	w, e := isa.Encode(i)
	if e != api.OK {
		t.Fatalf("Encode(%v) = %d", i, e)
	}
	return w
}

// assemble returns the words of a text.
func assemble(t *testing.T, s string) []uint32 {
	t.Helper()
	code, line, e := isa.Assemble(s)
	if e != api.OK {
		t.Fatalf("Assemble(%q) = %d, %d", s, line, e)
	}
	return code
}

// steps tells whether a Step of r returns these registers and this event.
func steps(t *testing.T, what string, r cpu.Regs, m cpu.Memory, want cpu.Regs, event cpu.Event) {
	t.Helper()
	if got, ev := cpu.Step(r, m); got != want || ev != event {
		t.Errorf("%s: Step(%v) = %v, %v, want %v, %v", what, r, got, ev, want, event)
	}
}

// slowStep is what the chapter says of Step, word by word; all places and words are numbers below 2^32 here.
func slowStep(r cpu.Regs, m *memory) (cpu.Regs, cpu.Event) {
	if r.Depth < 0 || r.Depth > 8 {
		return r, cpu.Event{Ticks: 1, Call: -1, E: api.ErrState}
	}
	w, e := m.Fetch(r.Pc)
	if e != api.OK {
		return r, cpu.Event{Ticks: 1, Call: -1, E: e}
	}
	i, e := isa.Decode(w)
	if e != api.OK {
		return r, cpu.Event{Ticks: 1, Call: -1, E: api.ErrCode}
	}
	ev := cpu.Event{Ticks: isa.Price(i.Op), Call: -1}
	if ev.E = slowError(r, m, i); ev.E != api.OK {
		return r, ev
	}
	after := slowEffect(r, m, i)
	if i.Op == isa.Trap {
		ev.Call = i.N
	}
	return slowLoops(after), ev
}

// mod returns a number modulo 2^32.
func mod(n int) uint32 { return uint32((n%(1<<32) + 1<<32) % (1 << 32)) }

func slowError(r cpu.Regs, m *memory, i isa.Instr) api.Errno {
	place := mod(int(r.R[i.B]) + i.N)
	switch i.Op {
	case isa.Div:
		if r.R[i.B] == 0 {
			return api.ErrDivide
		}
	case isa.Load:
		_, e := m.Load(place)
		return e
	case isa.Store:
		_, e := m.read(place, m.keeps)
		return e
	case isa.Loop:
		if r.Depth == 8 {
			return api.ErrDeep
		}
	case isa.Call, isa.Push:
		if !(r.Sp > r.Floor) || r.Sp > r.Top {
			return api.ErrStack
		}
		_, e := m.read(mod(int(r.Sp)-1), m.keeps)
		return e
	case isa.Ret, isa.Pop:
		if !(r.Sp < r.Top) || r.Sp < r.Floor {
			return api.ErrStack
		}
		_, e := m.Load(r.Sp)
		return e
	}
	return api.OK
}

// slowEffect is the effect of an instruction that has no error.
func slowEffect(r cpu.Regs, m *memory, i isa.Instr) cpu.Regs {
	a, b, n := int(r.R[i.A]), int(r.R[i.B]), i.N
	next := mod(int(r.Pc) + 1)
	goal := mod(int(next) + n)
	r.Pc = next
	switch i.Op {
	case isa.Set:
		r.R[i.A] = mod(n)
	case isa.Move:
		r.R[i.A] = mod(b)
	case isa.Add:
		r.R[i.A] = mod(a + b)
	case isa.Addn:
		r.R[i.A] = mod(a + n)
	case isa.Sub:
		r.R[i.A] = mod(a - b)
	case isa.Mul:
		// In two halves, as the product may be beyond every int.
		r.R[i.A] = mod((a*(b>>16)%(1<<32))<<16 + a*(b%65536))
	case isa.Div:
		r.R[i.A] = mod(a / b)
	case isa.And, isa.Or, isa.Xor:
		r.R[i.A] = slowBits(i.Op, a, b)
	case isa.Shl:
		r.R[i.A] = mod(a % (1 << (32 - n)) << n)
	case isa.Shr:
		r.R[i.A] = mod(a / (1 << n))
	case isa.Load:
		r.R[i.A], _ = m.Load(mod(b + n))
	case isa.Store:
		m.words[mod(b+n)] = mod(a)
	case isa.Jump:
		r.Pc = goal
	case isa.Jz:
		if a == 0 {
			r.Pc = goal
		}
	case isa.Jnz:
		if a > 0 {
			r.Pc = goal
		}
	case isa.Loop:
		r.Loops[r.Depth] = cpu.Loop{From: next, End: mod(int(next) + 16*i.A + i.B), Left: n - 1}
		r.Depth++
	case isa.Call, isa.Push:
		r.Sp = mod(int(r.Sp) - 1)
		m.words[r.Sp] = mod(a)
		if i.Op == isa.Call {
			m.words[r.Sp] = next
			r.Pc = mod(n)
		}
	case isa.Ret:
		r.Pc, _ = m.Load(r.Sp)
		r.Sp = mod(int(r.Sp) + 1)
	case isa.Pop:
		r.R[i.A], _ = m.Load(r.Sp)
		r.Sp = mod(int(r.Sp) + 1)
	}
	return r
}

// slowBits goes through two words bit by bit.
func slowBits(op, a, b int) (w uint32) {
	for bit := range 32 {
		x, y := a>>bit%2, b>>bit%2
		set := op == isa.And && x+y == 2 || op == isa.Or && x+y > 0 || op == isa.Xor && x+y == 1
		if set {
			w += 1 << bit
		}
	}
	return w
}

// slowLoops is what happens finally.
func slowLoops(r cpu.Regs) cpu.Regs {
	for r.Depth > 0 {
		innermost := r.Loops[r.Depth-1]
		if innermost.End != r.Pc {
			break
		}
		if innermost.Left != 0 {
			r.Loops[r.Depth-1].Left = innermost.Left - 1
			r.Pc = innermost.From
			break
		}
		r.Loops[r.Depth-1] = cpu.Loop{}
		r.Depth--
	}
	return r
}

// near are places and words that lie together, and at both ends of all.
func near(dice *rand.Rand) uint32 {
	switch dice.Intn(6) {
	case 0:
		return uint32(dice.Intn(3)) - 1
	case 1:
		return dice.Uint32()
	case 2:
		return 1<<31 + uint32(dice.Intn(3)) - 1
	}
	return 100 + uint32(dice.Intn(8))
}

// some returns an instruction that may be, with numbers that keep it near.
func some(dice *rand.Rand) isa.Instr {
	for {
		i := isa.Instr{Op: dice.Intn(isa.Ops), A: dice.Intn(4) * dice.Intn(2), B: dice.Intn(4) * dice.Intn(2)}
		switch dice.Intn(4) {
		case 0:
			i.N = dice.Intn(8) - 3
		case 1:
			i.N = []int{-1 << 18, 1<<18 - 1, 31, 100 + dice.Intn(8)}[dice.Intn(4)]
		case 2:
			i.N = dice.Intn(1<<19) - 1<<18
		}
		if _, e := isa.Encode(i); e == api.OK {
			return i
		}
	}
}

// someRegs returns registers of all sorts, some of which are not as they should be.
func someRegs(dice *rand.Rand) cpu.Regs {
	r := cpu.Regs{Pc: near(dice), Sp: near(dice), Floor: near(dice), Top: near(dice)}
	if dice.Intn(2) == 0 {
		r.Floor, r.Top = 100, 107
	}
	for i := range r.R {
		r.R[i] = near(dice) * uint32(dice.Intn(2))
	}
	r.Depth = dice.Intn(9)
	for i := range r.Depth {
		r.Loops[i] = cpu.Loop{From: near(dice), End: r.Pc + uint32(dice.Intn(4)) - 1, Left: dice.Intn(4) - 1}
	}
	if dice.Intn(50) == 0 {
		r.Depth = []int{-1, 9, -1 << 63, 1<<63 - 1}[dice.Intn(4)]
	}
	return r
}
