package worst_test

import (
	"math/rand"
	"testing"

	"monocoque/api"
	"monocoque/cpu"
	"monocoque/isa"
	"monocoque/worst"
)

const floor = 5000 // of the stack, behind all code

// memory permits code to be fetched and a stack to be used; all else that is loaded is random, and all else that is stored is forgotten.
type memory struct {
	code, stack []uint32
	dice        *rand.Rand
	used        int // words of the stack
}

func (m *memory) Fetch(at uint32) (uint32, api.Errno) {
	if int(at) >= len(m.code) {
		return 0, api.ErrRange
	}
	return m.code[at], api.OK
}

func (m *memory) has(at uint32) bool { return at >= floor && int(at-floor) < len(m.stack) }

func (m *memory) Load(at uint32) (uint32, api.Errno) {
	if m.has(at) {
		return m.stack[at-floor], api.OK
	}
	return m.dice.Uint32(), api.OK
}

func (m *memory) Store(at, w uint32) api.Errno {
	if m.has(at) {
		m.stack[at-floor] = w
		m.used = max(m.used, len(m.stack)-int(at-floor))
	}
	return api.OK
}

// run executes code from an entry on to the end of its release. It returns the ticks, those of the calls included;
// ok is false if it stores into its own stack.
func run(t *testing.T, m *memory, entry int, price func(int) int) (ticks int, ok bool) {
	t.Helper()
	r := cpu.Fresh(uint32(entry), floor, floor+uint32(len(m.stack)))
	for range 1000000 {
		i, _ := isa.Decode(m.code[r.Pc])
		if i.Op == isa.Store && m.has(r.R[i.B]+uint32(i.N)) {
			return 0, false
		}
		// What a jump depends on is left to chance.
		r.R[m.dice.Intn(16)] = m.dice.Uint32() * uint32(m.dice.Intn(2))
		if i.Op == isa.Jz || i.Op == isa.Jnz {
			r.R[i.A] = uint32(m.dice.Intn(2))
		}
		var ev cpu.Event
		r, ev = cpu.Step(r, m)
		ticks += ev.Ticks
		if ev.E != api.OK {
			t.Fatalf("the error %d at %d of %v", ev.E, r.Pc, m.code)
		}
		if ev.Call >= 0 {
			ticks += max(price(ev.Call), 0)
		}
		if ev.Call == 3 {
			return ticks, true
		}
	}
	t.Fatalf("no end of %v", m.code)
	return 0, false
}

// T6: a release of accepted code ends within the ticks of Bound, on a stack of the words of Stack.
// P17.1: if there is but one way through the code, it takes exactly as many.
func TestRun(t *testing.T) {
	dice := rand.New(rand.NewSource(4))
	ran, exact := 0, 0
	for n := range 1500 {
		w := &writer{dice: dice, functions: 1 + dice.Intn(4), room: 15, repeats: 3, straight: n%2 == 0}
		code := w.write()
		price := func(call int) int { return call%7*3 - 4 }
		ticks, e := worst.Bound(code, 0, price)
		words, eStack := worst.Stack(code, 0)
		if e != api.OK || eStack != api.OK {
			t.Fatalf("%d and %d for %q", e, eStack, w.lines)
		}
		for range 6 {
			m := &memory{code: code, stack: make([]uint32, words), dice: dice}
			took, ok := run(t, m, 0, price)
			if !ok {
				continue
			}
			ran++
			if took > ticks || w.straight && took != ticks {
				t.Fatalf("%d ticks of %d of %q", took, ticks, w.lines)
			}
			if w.straight && m.used != words {
				t.Fatalf("%d words of %d of %q", m.used, words, w.lines)
			}
			if !w.straight && took == ticks && m.used == words {
				exact++
			}
		}
	}
	if ran < 7500 || exact < 400 {
		t.Errorf("%d were executed, %d for the longest time", ran, exact)
	}
}
