package verify_test

import (
	"math"
	"math/rand"
	"slices"
	"strings"
	"testing"

	"monocoque/api"
	"monocoque/isa"
	"monocoque/verify"
)

// words is code that consists of a nop again and again, and the end.
func words(t *testing.T, size int) []uint32 {
	t.Helper()
	return append(make([]uint32, size-1), assemble(t, "trap 3")...)
}

// all returns the places of code of some size.
func all(size int) (l []int) {
	for at := range size {
		l = append(l, at)
	}
	return l
}

// The chapter's examples.
func TestExamples(t *testing.T) {
	checks(t, assemble(t, "set r1 1\ntrap 3"), []int{0}, 0, -1, api.OK)
	checks(t, assemble(t, "nop"), []int{0}, 0, 0, api.ErrRange)
	checks(t, assemble(t, "x: jump x"), []int{0}, 0, 0, api.ErrLoop)
	checks(t, assemble(t, "set r1 5\ntrap 3"), []int{0}, 0, -1, api.OK) // example 8 of the whole
}

// P16.1, condition 1: what may be passed.
func TestArguments(t *testing.T) {
	two := words(t, 2)
	for what, c := range map[string]struct {
		code    []uint32
		entries []int
		stack   int
		e       api.Errno
	}{
		"no entries":                {two, nil, 0, api.ErrArg},
		"empty entries":             {two, []int{}, 0, api.ErrArg},
		"stack -1":                  {two, []int{0}, -1, api.ErrArg},
		"least stack":               {two, []int{0}, math.MinInt, api.ErrArg},
		"stack 0":                   {two, []int{0}, 0, api.OK},
		"stack 4096":                {two, []int{0}, 4096, api.OK},
		"stack 4097":                {two, []int{0}, 4097, api.ErrArg},
		"most stack":                {two, []int{0}, math.MaxInt, api.ErrArg},
		"no code":                   {nil, []int{0}, 0, api.ErrRange},
		"no code, no entries":       {nil, nil, 0, api.ErrArg},
		"one word":                  {words(t, 1), []int{0}, 0, api.OK},
		"4096 words":                {words(t, 4096), []int{4095}, 0, api.OK},
		"4097 words":                {words(t, 4097), []int{0}, 0, api.ErrRange},
		"4097 words, no entries":    {words(t, 4097), nil, 0, api.ErrArg},
		"4097 words, stack":         {words(t, 4097), []int{0}, 4097, api.ErrArg},
		"4097 words, no code":       {slices.Repeat([]uint32{1}, 4097), []int{0}, 0, api.ErrRange},
		"entry -1":                  {two, []int{-1}, 0, api.ErrRange},
		"last entry":                {two, []int{1}, 0, api.OK},
		"entry at the end":          {two, []int{2}, 0, api.ErrRange},
		"least entry":               {two, []int{math.MinInt}, 0, api.ErrRange},
		"most entry":                {two, []int{math.MaxInt}, 0, api.ErrRange},
		"a later entry":             {two, []int{0, 1, 0, 2}, 0, api.ErrRange},
		"an entry and stack":        {two, []int{5}, -1, api.ErrArg},
		"an entry and no code":      {[]uint32{1}, []int{1}, 0, api.ErrRange},
		"all entries":               {words(t, 50), all(50), 0, api.OK},
		"one entry again and again": {two, slices.Repeat([]int{0, 1}, 5000), 0, api.OK},
	} {
		if at, e := verify.Check(c.code, c.entries, c.stack); at != -1 || e != c.e {
			t.Errorf("%s: Check = %d, %d, want %d", what, at, e, c.e)
		}
	}
}

// P16.1, condition 2: the first word that is no instruction, ahead of all that follows.
func TestCodes(t *testing.T) {
	for _, w := range []uint32{1, 0xC0000000, 0xFFFFFFFF, 0x90080000, 0x90000001, 0x58000020} {
		for at := range 4 {
			for _, i := range []isa.Instr{{}, {Op: isa.Jump, N: -100}, {Op: isa.Jump, N: -1}, {Op: isa.Pop}, {Op: isa.Call}, {Op: isa.Ret}} {
				code := append(slices.Repeat(encode(t, i), 3), assemble(t, "trap 3")...)
				code[at] = w
				checks(t, code, []int{0}, 0, at, api.ErrCode)
				code[3] = w
				checks(t, code, []int{0}, 0, at, api.ErrCode)
			}
		}
	}
}

// P16.1, condition 3: what instructions name is within the code, reachable or not, and nothing follows the last word.
func TestPlaces(t *testing.T) {
	const size = 7
	for at := range size {
		for n := -size - 2; n <= size+2; n++ {
			for _, i := range []isa.Instr{
				{Op: isa.Jump, N: n}, {Op: isa.Jz, A: 3, N: n}, {Op: isa.Jnz, A: 15, N: n}, {Op: isa.Call, N: n}, {Op: isa.Loop, B: n, N: 1},
			} {
				w, e := isa.Encode(i)
				if e != api.OK {
					continue
				}
				code := words(t, size)
				code[at] = w
				place := at + 1 + n
				if i.Op == isa.Call {
					place = n
				}
				outside := place < 0 || place >= size || at == size-1 && i.Op != isa.Jump
				for _, entry := range []int{0, size - 1} {
					at2, e := verify.Check(code, []int{entry}, 0)
					if outside != (e == api.ErrRange && at2 == at) {
						t.Errorf("Check of %v at %d = %d, %d", i, at, at2, e)
					}
				}
			}
		}
	}
	far := []isa.Instr{
		{Op: isa.Jump, N: -1 << 18}, {Op: isa.Jz, N: 1<<18 - 1}, {Op: isa.Call, N: 1<<18 - 1}, {Op: isa.Loop, A: 15, B: 15, N: 1},
	}
	for _, i := range far {
		checks(t, append(encode(t, isa.Instr{}, i), words(t, 200)...), []int{5}, 0, 1, api.ErrRange)
	}
}

// P16.1, condition 3: the last word.
func TestLast(t *testing.T) {
	checks(t, assemble(t, "trap 3"), []int{0}, 0, -1, api.OK)
	checks(t, assemble(t, "call f\ntrap 3\nf: ret"), []int{0}, 1, -1, api.OK)
	checks(t, assemble(t, "trap 3\nret"), []int{0}, 0, -1, api.OK)
	checks(t, assemble(t, "trap 3\nx: jump x"), []int{0}, 0, 1, api.ErrLoop)
	for _, last := range []string{"nop", "trap 0", "trap 2", "trap 4", "push r1", "pop r1", "call x", "jz r1 x", "jnz r1 x", "set r1 3", "store r1 r1 3"} {
		checks(t, assemble(t, "x: nop\ntrap 3\n"+last), []int{0}, 9, 2, api.ErrRange)
		checks(t, assemble(t, "x: "+last), []int{0}, 9, 0, api.ErrRange)
	}
	// Of several places the smallest one counts.
	checks(t, encode(t, isa.Instr{Op: isa.Loop, B: 3, N: 1}, isa.Instr{Op: isa.Jump, N: 9}, isa.Instr{}), []int{0}, 0, 0, api.ErrRange)
	checks(t, encode(t, isa.Instr{}, isa.Instr{Op: isa.Call, N: 3}, isa.Instr{}), []int{0}, 0, 1, api.ErrRange)
}

// accepted are texts that Check accepts with the entry 0 and a stack of 4 words.
var accepted = []string{
	"loop x 3\nnop\nx: trap 3",
	"loop x 3\nloop x 3\nnop\nx: trap 3",
	"loop x 3\nloop y 3\nnop\ny: nop\nx: trap 3",
	"loop x 3\njump x\nx: trap 3",
	"loop x 3\njz r1 x\nnop\nx: trap 3",
	"loop x 3\njz r1 y\nnop\ny: nop\nx: trap 3",
	"loop x 3\nloop x 3\njnz r1 x\nnop\nx: trap 3",
	"loop x 3\nloop y 3\njnz r1 y\nnop\ny: nop\nx: trap 3",
	"loop x 3\njz r1 y\nloop y 2\nnop\ny: nop\nx: trap 3",
	"jump x\nloop x 3\nnop\nx: trap 3",
	"jz r1 x\nnop\nx: loop y 2\nnop\ny: trap 3",
	"loop x 1\ncall f\nx: trap 3\nf: ret",
	"loop x 1\ncall f\ncall f\nx: trap 3\nf: loop y 2\nnop\ny: ret",
	"loop x 1\ntrap 2\ntrap 4\nx: trap 3",
	"jump x\nx: trap 3",
	"jz r1 x\nx: trap 3",
	"push r1\npush r2\npop r3\npop r4\ntrap 3",
	"push r1\ntrap 3",
	"jz r1 x\npush r1\njump y\nx: push r2\ny: pop r1\ntrap 3",
	"jz r1 x\npush r1\ntrap 3\nx: trap 3",
	"push r1\nloop x 2\npop r1\npush r2\nx: pop r1\ntrap 3",
	"loop x 9\npush r1\npop r1\nx: trap 3",
	"push r1\ncall f\npop r1\ntrap 3\nf: push r1\npop r1\nret",
	"call f\ntrap 3\nf: jz r1 x\nret\nx: ret",
	"call f\ntrap 3\nf: call g\nret\ng: ret",
	"call f\nf: trap 3",
	"call f\ntrap 3\nf: push r1\ntrap 3",
	"call f\ncall g\ntrap 3\nf: nop\ng: ret",
}

// P16.1: what may be.
func TestAccepted(t *testing.T) {
	for _, s := range accepted {
		checks(t, assemble(t, s), []int{0}, 4, -1, api.OK)
		// What is not reached does not matter.
		checks(t, slices.Concat(assemble(t, s), assemble(t, "pop r1\npush r1\npush r1\nret")), []int{0}, 4, -1, api.OK)
	}
}

// P16.1, condition 4: each way in which code may go back, or into bodies or out of them.
func TestOrder(t *testing.T) {
	for _, c := range []struct {
		s  string
		at int
	}{
		{"x: nop\njump x\ntrap 3", 1},
		{"x: nop\njz r1 x\ntrap 3", 1},
		{"x: nop\njnz r1 x\ntrap 3", 1},
		{"x: jz r1 x\ntrap 3", 0},
		{"trap 3\nx: nop\njump x", 2},
		{"loop x 2\ny: jz r1 y\nx: trap 3", 1},
		{"loop x 2\nloop y 2\nnop\nx: nop\ny: trap 3", 1},
		{"loop x 2\nnop\nloop y 2\nx: nop\ny: trap 3", 2},
		{"loop x 2\nloop y 2\nloop z 2\nnop\ny: nop\nx: nop\nz: trap 3", 2},
		{"jump y\nloop x 2\ny: nop\nx: trap 3", 0},
		{"jump y\nloop x 2\nnop\ny: nop\nx: trap 3", 0},
		{"jz r1 y\nloop x 2\nnop\ny: nop\nx: trap 3", 0},
		{"loop x 2\njz r1 z\nloop y 2\nz: nop\ny: nop\nx: trap 3", 1},
		{"loop x 2\njump y\nx: nop\ny: trap 3", 1},
		{"loop x 2\nloop y 2\njump x\ny: nop\nx: trap 3", 2},
		{"loop x 2\nloop y 2\njump z\ny: nop\nx: nop\nz: trap 3", 2},
		{"loop x 2\njump y\nx: loop z 2\ny: nop\nz: trap 3", 1},
		{"loop x 2\njump y\nx: loop z 2\nnop\ny: nop\nz: trap 3", 1},
		{"loop x 2\nloop y 2\njump z\ny: loop w 2\nz: nop\nw: nop\nx: trap 3", 2},
		{"call f\ntrap 3\nloop x 2\nf: nop\nx: ret", 0},
		{"trap 3\ncall f\nloop x 2\nnop\nf: nop\nx: ret", 1},
		{"call f\ntrap 3\nf: loop x 2\nret\nx: ret", 3},
		{"loop x 2\ntrap 3\nx: trap 3", 1},
		{"trap 3\nloop x 2\ntrap 3\nx: trap 3", 2},
		{"loop x 2\nloop x 2\nret\nx: trap 3", 2},
		// Of several places the smallest one counts.
		{"x: nop\nloop y 2\ntrap 3\ny: jump x", 2},
		{"x: nop\nloop y 2\nnop\ny: jz r1 x\nloop z 2\nret\nz: trap 3", 3},
		// Ahead of the conditions that follow.
		{"pop r1\npush r1\npush r1\ncall x\nx: ret\ny: jump y", 5},
	} {
		checks(t, assemble(t, c.s), []int{0}, 0, c.at, api.ErrLoop)
	}
}

// loops returns the lines of so many loops within each other around a text, and what follows them.
func loops(count int, label, within, after string) string {
	return strings.Repeat("loop "+label+" 1\n", count) + within + "\n" + label + ": " + after + "\n"
}

// P16.1, condition 5: the first place in more than eight bodies.
func TestDepth(t *testing.T) {
	checks(t, assemble(t, loops(8, "x", "nop", "trap 3")), []int{0}, 0, -1, api.OK)
	checks(t, assemble(t, loops(9, "x", "nop", "trap 3")), []int{0}, 0, 9, api.ErrDeep)
	checks(t, assemble(t, loops(11, "x", "nop", "trap 3")), []int{0}, 0, 9, api.ErrDeep)
	checks(t, assemble(t, "trap 3\n"+loops(9, "x", "nop", "trap 3")), []int{0}, 0, 10, api.ErrDeep)
	checks(t, assemble(t, loops(8, "x", "nop", "nop")+loops(8, "y", "nop", "trap 3")), []int{0}, 0, -1, api.OK)
	checks(t, assemble(t, loops(8, "x", "nop", "nop")+loops(9, "y", "nop", "trap 3")), []int{0}, 0, 19, api.ErrDeep)
	checks(t, assemble(t, loops(7, "x", "jz r1 z\nloop z 1\nnop\nz: nop", "trap 3")), []int{0}, 0, -1, api.OK)
	checks(t, assemble(t, loops(8, "x", "loop z 1\nnop\nz: nop", "trap 3")), []int{0}, 0, 9, api.ErrDeep)
	checks(t, assemble(t, "call f\n"+loops(9, "x", "nop", "trap 3")+"f: call f\npop r1\nret"), []int{0}, 0, 10, api.ErrDeep)
}

// P16.1, condition 6: calls that lead back, of reachable functions.
func TestRecursion(t *testing.T) {
	for _, c := range []struct {
		s       string
		entries []int
		at      int
		e       api.Errno
	}{
		{"x: call x\ntrap 3", []int{0}, 0, api.ErrDeep},
		{"nop\ncall f\ntrap 3\nf: call f\nret", []int{0}, 3, api.ErrDeep},
		{"nop\ncall f\ntrap 3\nf: nop\ncall f\nret", []int{0}, 4, api.ErrDeep},
		{"m: call f\ntrap 3\nf: call g\nret\ng: call m\nret", []int{0}, 0, api.ErrDeep},
		{"call f\ntrap 3\nf: call g\nret\ng: call f\nret", []int{0}, 2, api.ErrDeep},
		{"call f\ntrap 3\nf: call g\nret\ng: call h\nret\nh: call f\nret", []int{0}, 2, api.ErrDeep},
		{"call g\ntrap 3\nf: call h\nret\ng: call f\nret\nh: call g\nret", []int{0}, 2, api.ErrDeep},
		{"call g\ntrap 3\ng: call h\nret\nh: jz r1 x\nret\nx: call h\nret", []int{0}, 6, api.ErrDeep},
		// The called function reaches the call, though it begins ahead of it.
		{"call f\nf: nop\ncall f\ntrap 3", []int{0}, 2, api.ErrDeep},
		{"f: nop\nnop\ncall f\ntrap 3", []int{2}, 2, api.ErrDeep},
		{"f: trap 3\nnop\ncall f\ntrap 3", []int{2}, -1, api.OK},
		// No way leads there.
		{"trap 3\nf: call f\nret", []int{0}, -1, api.OK},
		{"call f\ntrap 3\nf: ret\ng: call h\nret\nh: call g\nret", []int{0}, -1, api.OK},
		{"call f\ntrap 3\nf: ret\ng: call h\ntrap 3\nh: call g\nret", []int{0, 3}, 3, api.ErrDeep},
		// Calls of the same function again and again do not lead back.
		{"call f\ncall f\ntrap 3\nf: call g\ncall g\nret\ng: ret", []int{0}, -1, api.OK},
		// Ahead of the conditions that follow, wherever they hold.
		{"pop r1\ncall f\ntrap 3\nf: call f\nret", []int{0}, 3, api.ErrDeep},
	} {
		checks(t, assemble(t, c.s), c.entries, 9, c.at, c.e)
	}
}

// P16.1, condition 7: heights.
func TestHeights(t *testing.T) {
	for _, c := range []struct {
		s       string
		entries []int
		at      int
	}{
		{"pop r1\ntrap 3", []int{0}, 0},
		{"push r1\npop r1\npop r1\ntrap 3", []int{0}, 2},
		{"push r1\npush r2\npop r1\npop r1\npop r1\ntrap 3", []int{0}, 4},
		{"push r1\npop r1\ntrap 3", []int{0, 1}, 1},
		{"jz r1 x\npush r1\nx: trap 3", []int{0}, 2},
		{"push r1\njnz r1 x\npop r1\nx: trap 3", []int{0}, 3},
		{"push r1\njnz r1 x\npush r1\nx: pop r1\ntrap 3", []int{0}, 3},
		{"jz r1 x\njz r2 y\npush r1\nx: nop\ny: trap 3", []int{0}, 3},
		// A call has the height of where it returns, whatever is called.
		{"push r1\ncall f\npop r1\npop r1\ntrap 3\nf: ret", []int{0}, 3},
		{"call f\npop r1\ntrap 3\nf: push r1\nret", []int{0}, 1},
		{"call f\ntrap 3\nf: push r1\nret", []int{0}, 3},
		{"push r1\ncall f\ntrap 3\nf: pop r1\npush r1\nret", []int{0}, 3},
		{"call f\ntrap 3\nf: jz r1 x\nret\nx: push r1\nret", []int{0}, 5},
		// A ret of an entry, whether or not it is called as well.
		{"ret", []int{0}, 0},
		{"nop\njz r1 x\nret\nx: trap 3", []int{0}, 2},
		{"call f\ntrap 3\nf: nop\nret", []int{0, 2}, 3},
		{"call f\ntrap 3\nf: nop\ng: ret", []int{0, 3}, 3},
		{"call f\nf: ret", []int{0}, 1},
		// The loop counts, not what is in it.
		{"loop x 2\npush r1\nx: trap 3", []int{0}, 0},
		{"nop\npush r1\nloop x 2\npop r1\nx: trap 3", []int{0}, 2},
		{"nop\nloop x 2\npop r1\nx: trap 3", []int{0}, 1},
		{"nop\nloop x 2\njz r1 x\npush r1\nx: trap 3", []int{0}, 1},
		{"nop\nloop x 2\njz r1 y\npush r1\ny: nop\nx: trap 3", []int{0}, 1},
		{"nop\nloop x 2\njz r1 y\npush r1\njump x\ny: nop\nx: trap 3", []int{0}, 1},
		{"loop x 2\nloop y 2\npush r1\ny: pop r1\nx: trap 3", []int{0}, 1},
		{"loop x 2\nnop\nloop x 2\npush r1\nx: trap 3", []int{0}, 0},
		{"push r1\nloop x 1\npush r1\nx: pop r1\ntrap 3", []int{0}, 1},
		// Places that several functions have, with a height in each of them.
		{"call f\ncall g\ntrap 3\nf: push r1\ng: pop r1\nret", []int{0}, 4},
		{"call f\ncall g\ntrap 3\nf: push r1\ng: nop\nret", []int{0}, 5},
		{"push r1\npop r1\ntrap 3", []int{0, 1, 2}, 1},
		// Of several places the smallest one counts, in whatever function.
		{"call g\ntrap 3\nf: pop r1\nret\ng: call f\npush r1\nret", []int{0}, 2},
		{"call f\nret\nf: pop r1\nret", []int{0}, 1},
	} {
		checks(t, assemble(t, c.s), c.entries, 0, c.at, api.ErrStack)
	}
	// Each function counts for itself.
	checks(t, assemble(t, "call f\ncall g\ntrap 3\nf: nop\ng: nop\nret"), []int{0}, 1, -1, api.OK)
	checks(t, assemble(t, "push r1\nnop\ntrap 3"), []int{0, 1}, 1, -1, api.OK)
	// An entry in the body of a loop.
	checks(t, assemble(t, "loop x 2\npush r1\npop r1\nx: trap 3"), []int{0, 1, 3}, 1, -1, api.OK)
	checks(t, assemble(t, "loop x 2\npush r1\npop r1\nx: trap 3"), []int{0, 2}, 1, 2, api.ErrStack)
}

// P16.1, condition 8: loops that are active across calls.
func TestDeepCalls(t *testing.T) {
	f := func(caller, called int) string {
		return loops(caller, "x", "call f", "trap 3") + "f: " + loops(called, "y", "nop", "ret")
	}
	for caller := range 9 {
		for called := range 9 {
			at, e := -1, api.OK
			if caller+called > 8 {
				at, e = caller, api.ErrDeep
			}
			checks(t, assemble(t, f(caller, called)), []int{0}, 1, at, e)
			// Nothing of it counts unless it is reached.
			checks(t, append(assemble(t, f(caller, called)), assemble(t, "trap 3")...), []int{caller + called + 4}, 0, -1, api.OK)
		}
	}
	three := func(a, b, c int) []uint32 {
		return assemble(t, loops(a, "x", "call f", "trap 3")+"f: "+loops(b, "y", "call g", "ret")+"g: "+loops(c, "z", "nop", "ret"))
	}
	checks(t, three(3, 3, 2), []int{0}, 2, -1, api.OK)
	checks(t, three(3, 3, 3), []int{0}, 2, 8, api.ErrDeep)
	checks(t, three(4, 5, 0), []int{0}, 2, 4, api.ErrDeep)
	checks(t, three(4, 4, 1), []int{0}, 2, 10, api.ErrDeep)
	checks(t, three(8, 0, 0), []int{0}, 2, -1, api.OK)
	checks(t, three(8, 0, 1), []int{0}, 2, 10, api.ErrDeep)
	checks(t, three(0, 8, 1), []int{0}, 2, 10, api.ErrDeep)
	// Loops of what the called function calls in turn count at its own calls, where they are active or not.
	checks(t, assemble(t, loops(4, "x", "call f", "trap 3")+"f: "+loops(4, "y", "nop", "call g")+"ret\ng: "+loops(4, "z", "nop", "ret")), []int{0}, 2, -1, api.OK)
	checks(t, assemble(t, loops(4, "x", "call f", "trap 3")+"f: "+loops(4, "y", "nop", "call g")+"ret\ng: "+loops(5, "z", "nop", "ret")), []int{0}, 2, 11, api.ErrDeep)
	// The deepest of several calls counts, and of several entries.
	checks(t, assemble(t, "call f\n"+loops(4, "x", "call f", "trap 3")+"f: call g\nret\ng: "+loops(5, "z", "nop", "ret")), []int{0}, 2, 7, api.ErrDeep)
	checks(t, assemble(t, "call f\ntrap 3\n"+loops(4, "x", "call f", "trap 3")+"f: call g\nret\ng: "+loops(5, "z", "nop", "ret")), []int{0}, 2, -1, api.OK)
	checks(t, assemble(t, "call f\ntrap 3\n"+loops(4, "x", "call f", "trap 3")+"f: call g\nret\ng: "+loops(5, "z", "nop", "ret")), []int{0, 2}, 2, 8, api.ErrDeep)
	// Ahead of a stack that is too small, behind heights.
	checks(t, assemble(t, "push r1\npop r1\n"+f(4, 5)), []int{0}, 0, 6, api.ErrDeep)
	checks(t, append(assemble(t, f(4, 5)), assemble(t, "pop r1\ntrap 3")...), []int{0, 13}, 0, 13, api.ErrStack)
}

// P16.1, condition 9: the smallest stack that is enough, and where a smaller one is not.
func TestWords(t *testing.T) {
	for _, c := range []struct {
		s       string
		entries []int
		at      []int // for a stack of 0, 1, 2 and so on words, as long as it is not enough
	}{
		{"trap 3", []int{0}, nil},
		{"push r1\ntrap 3", []int{0}, []int{0}},
		{"push r1\npush r1\npop r1\npush r1\npush r1\ntrap 3", []int{0}, []int{0, 1, 4}},
		{"call f\ntrap 3\nf: ret", []int{0}, []int{0}},
		{"call f\ntrap 3\nf: push r1\npop r1\nret", []int{0}, []int{0, 2}},
		{"push r1\ncall f\npop r1\ntrap 3\nf: push r1\npop r1\nret", []int{0}, []int{0, 1, 4}},
		{"jump m\nf: push r1\npush r2\npop r2\npop r1\nret\nm: push r1\npush r1\ncall f\ntrap 3", []int{0}, []int{1, 1, 1, 1, 2}},
		{"call f\npush r1\ncall f\ntrap 3\nf: call g\nret\ng: ret", []int{0}, []int{0, 2, 4}},
		{"push r1\ncall f\ntrap 3\nf: push r1\npush r1\npop r1\npop r1\nret", []int{0, 2}, []int{0, 1, 3, 4}},
		// The greatest height of several calls, and of several entries, counts.
		{"call f\npush r1\npush r1\ncall f\ntrap 3\nf: push r1\ntrap 3", []int{0}, []int{0, 2, 3, 5}},
		{"call f\ntrap 3\npush r1\npush r1\ncall f\ntrap 3\nf: push r1\ntrap 3", []int{0}, []int{0, 6}},
		{"call f\ntrap 3\npush r1\npush r1\ncall f\ntrap 3\nf: push r1\ntrap 3", []int{0, 2}, []int{0, 3, 4, 6}},
		{"call f\ntrap 3\npush r1\npush r1\ncall f\ntrap 3\nf: push r1\ntrap 3", []int{0, 6}, []int{0, 6}},
		// Code that no way leads to does not count.
		{"push r1\ntrap 3\npush r1\npush r1\ncall f\ntrap 3\nf: ret", []int{0}, []int{0}},
		// In a loop nothing is left on the stack.
		{"loop x 9\npush r1\npop r1\nx: trap 3", []int{0}, []int{1}},
		{"loop x 9\npush r1\ncall f\npop r1\nx: trap 3\nf: ret", []int{0}, []int{1, 2}},
	} {
		code := assemble(t, c.s)
		for stack, at := range c.at {
			checks(t, code, c.entries, stack, at, api.ErrStack)
		}
		checks(t, code, c.entries, len(c.at), -1, api.OK)
		checks(t, code, c.entries, 4096, -1, api.OK)
	}
	// As much as code can push, and one word less than that.
	full := append(slices.Repeat(encode(t, isa.Instr{Op: isa.Push}), 4095), assemble(t, "trap 3")...)
	checks(t, full, []int{0}, 4095, -1, api.OK)
	checks(t, full, []int{0}, 4094, 4094, api.ErrStack)
}

// P16.1: code of all sorts, by the chapter's words.
func TestAgainstTheChapter(t *testing.T) {
	dice := rand.New(rand.NewSource(1))
	met := map[int]int{}
	for range 40000 {
		code, entries, stack := some(dice)
		keptCode, keptEntries := slices.Clone(code), slices.Clone(entries)
		at, e, number := slowCheck(code, entries, stack)
		if gotAt, got := verify.Check(code, entries, stack); gotAt != at || got != e {
			text, _ := isa.List(code)
			t.Fatalf("Check(%q, %v, %d) = %d, %d, want %d, %d by condition %d", text, entries, stack, gotAt, got, at, e, number)
		}
		if !slices.Equal(code, keptCode) || !slices.Equal(entries, keptEntries) {
			t.Fatalf("Check changes %v, %v to %v, %v", keptCode, keptEntries, code, entries)
		}
		met[number]++
	}
	for number := range 10 {
		if number != 1 && met[number] < 300 {
			t.Errorf("the condition %d was met only %d times", number, met[number])
		}
	}
}

// P16.1: much code, entered at all places, with as many functions as there can be.
func TestGreat(t *testing.T) {
	jumps := words(t, 4096)
	for at := range 4095 {
		jumps[at] = encode(t, isa.Instr{Op: isa.Jz, A: 1, N: min(1, 4094-at)})[0]
	}
	checks(t, jumps, all(4096), 0, -1, api.OK)
	calls := words(t, 4096)
	for at := range 4095 {
		calls[at] = encode(t, isa.Instr{Op: isa.Call, N: at + 1})[0]
	}
	checks(t, calls, []int{0}, 4094, 4094, api.ErrStack)
	if l := verify.Reach(calls, 7); !slices.Equal(l, all(4096)[7:]) {
		t.Errorf("Reach = %v", l)
	}
	calls[4094] = encode(t, isa.Instr{Op: isa.Call, N: 0})[0]
	checks(t, calls, []int{0}, 4095, 0, api.ErrDeep)
}
