package verify_test

import (
	"math"
	"math/rand"
	"slices"
	"testing"

	"monocoque/api"
	"monocoque/cpu"
	"monocoque/isa"
	"monocoque/verify"
)

// P16.2: the places that can be reached, those of called functions too.
func TestReach(t *testing.T) {
	for _, c := range []struct {
		s     string
		entry int
		want  []int
	}{
		{"trap 3", 0, []int{0}},
		{"nop\nnop\ntrap 3\nnop\ntrap 3", 0, []int{0, 1, 2}},
		{"nop\nnop\ntrap 3\nnop\ntrap 3", 1, []int{1, 2}},
		{"nop\nnop\ntrap 3\nnop\ntrap 3", 3, []int{3, 4}},
		{"jump x\nnop\nx: trap 3", 0, []int{0, 2}},
		{"jz r1 x\nnop\nx: trap 3", 0, []int{0, 1, 2}},
		{"loop x 2\nnop\nx: trap 3", 0, []int{0, 1, 2}},
		{"f: ret\ng: ret\nnop\ncall f\ntrap 3", 2, []int{0, 2, 3, 4}},
		{"call f\ntrap 3\nf: call g\nret\nnop\ng: nop\nret", 0, []int{0, 1, 2, 3, 5, 6}},
		{"call f\ntrap 3\nf: call g\nret\nnop\ng: nop\nret", 1, []int{1}},
		{"trap 2\ntrap 4\ntrap 3\ntrap 3", 0, []int{0, 1, 2}},
		// What Check does not accept with this entry alone.
		{"call f\ntrap 3\nf: ret", 2, nil},
		{"call f\ntrap 3\nf: ret", -1, nil},
		{"call f\ntrap 3\nf: ret", 3, nil},
		{"call f\ntrap 3\nf: ret", math.MaxInt, nil},
		{"call f\ntrap 3\nf: ret", math.MinInt, nil},
		{"trap 3\nx: jump x", 0, nil},
		{"trap 3\npop r1\ntrap 3", 1, nil},
		{"trap 3\npop r1\ntrap 3", 0, []int{0}},
		{"trap 3\nnop", 0, nil},
	} {
		if l := verify.Reach(assemble(t, c.s), c.entry); !slices.Equal(l, c.want) {
			t.Errorf("Reach(%q, %d) = %v, want %v", c.s, c.entry, l, c.want)
		}
	}
	if l := verify.Reach(nil, 0); len(l) > 0 {
		t.Errorf("Reach of nothing = %v", l)
	}
	if l := verify.Reach([]uint32{1}, 0); len(l) > 0 {
		t.Errorf("Reach of no instruction = %v", l)
	}
}

// P16.2: as many words on the stack as code can push.
func TestReachStack(t *testing.T) {
	code := append(slices.Repeat(encode(t, isa.Instr{Op: isa.Push}), 4095), assemble(t, "trap 3")...)
	if l := verify.Reach(code, 0); !slices.Equal(l, all(4096)) {
		t.Errorf("Reach = %d places", len(l))
	}
}

// P16.2: code of all sorts, by the chapter's words.
func TestReachAgainstTheChapter(t *testing.T) {
	dice := rand.New(rand.NewSource(2))
	accepted := 0
	for range 20000 {
		code, entries, _ := some(dice)
		var want []int
		if _, e, _ := slowCheck(code, entries[:1], 4096); e == api.OK {
			accepted++
			want = slowReach(code, entries[0])
		}
		kept := slices.Clone(code)
		if l := verify.Reach(code, entries[0]); !slices.Equal(l, want) || !slices.Equal(code, kept) {
			text, _ := isa.List(code)
			t.Fatalf("Reach(%q, %d) = %v, want %v", text, entries[0], l, want)
		}
	}
	if accepted < 4000 {
		t.Errorf("only %d were accepted", accepted)
	}
}

const floor = 5000 // of the stack, behind all code

// memory permits code to be fetched and a stack to be used; all else that is loaded is random, and all else that is stored is forgotten.
type memory struct {
	code, stack []uint32
	dice        *rand.Rand
}

func (m *memory) Fetch(at uint32) (uint32, api.Errno) {
	if int(at) >= len(m.code) {
		return 0, api.ErrRange
	}
	return m.code[at], api.OK
}

func (m *memory) has(at uint32) bool { return at >= floor && int(at-floor) < len(m.stack) }

func (m *memory) Load(at uint32) (uint32, api.Errno) {
	if m.has(at) {
		return m.stack[at-floor], api.OK
	}
	return m.dice.Uint32() >> m.dice.Intn(33), api.OK
}

func (m *memory) Store(at, w uint32) api.Errno {
	if m.has(at) {
		m.stack[at-floor] = w
	}
	return api.OK
}

// storesIntoStack reports whether the next instruction is a store into the stack.
func (m *memory) storesIntoStack(r cpu.Regs) bool {
	i, _ := isa.Decode(m.code[r.Pc])
	return i.Op == isa.Store && m.has(r.R[i.B]+uint32(i.N))
}

// sharesEnd reports whether a call in the body of a loop leads to the end of that body. There the loop would be repeated
// ahead of its turn; the chapter's conditions do not speak of that.
func sharesEnd(code []uint32) bool {
	s := slow{}
	for _, w := range code {
		i, _ := isa.Decode(w)
		s.list = append(s.list, i)
	}
	for p, i := range s.list {
		if i.Op != isa.Call {
			continue
		}
		reached := slowReach(code, i.N)
		for loop := range s.bodies(p) {
			if slices.Contains(reached, s.end(loop)) {
				return true
			}
		}
	}
	return false
}

// P16.3: accepted code, executed from its entries with the smallest stack that Check accepts and with any registers.
func TestRun(t *testing.T) {
	dice := rand.New(rand.NewSource(3))
	ran, traps := 0, 0
	for range 20000 {
		code, entries, _ := some(dice)
		if _, e := verify.Check(code, entries, 4096); e != api.OK || sharesEnd(code) {
			continue
		}
		stack := 0
		for at, e := verify.Check(code, entries, stack); e != api.OK; at, e = verify.Check(code, entries, stack) {
			if e != api.ErrStack || at < 0 {
				t.Fatalf("Check = %d, %d", at, e)
			}
			stack++
		}
		for _, entry := range entries {
			ran++
			if ends(t, code, entry, &memory{code: code, stack: make([]uint32, stack), dice: dice}) {
				traps++
			}
		}
	}
	if ran < 5000 || traps < ran*99/100 {
		t.Errorf("%d were executed, %d to their ends", ran, traps)
	}
}

// ends executes code from an entry, and tells whether it keeps the promise. It returns false if a store into the stack came first.
func ends(t *testing.T, code []uint32, entry int, m *memory) bool {
	t.Helper()
	reach := verify.Reach(code, entry)
	r := cpu.Fresh(uint32(entry), floor, floor+uint32(len(m.stack)))
	for n := range r.R {
		r.R[n] = m.dice.Uint32() >> m.dice.Intn(33)
	}
	for range 1000000 {
		if !slices.Contains(reach, int(r.Pc)) {
			t.Fatalf("%d is reached from %d of %v", r.Pc, entry, code)
		}
		if m.storesIntoStack(r) {
			return false
		}
		var ev cpu.Event
		r, ev = cpu.Step(r, m)
		if ev.E != api.OK {
			text, _ := isa.List(code)
			t.Fatalf("the error %d from %d with %d words of %q", ev.E, entry, len(m.stack), text)
		}
		if ev.Call == 3 {
			return true
		}
	}
	text, _ := isa.List(code)
	t.Fatalf("no end from %d of %q", entry, text)
	return false
}
