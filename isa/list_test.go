package isa_test

import (
	"math/rand"
	"slices"
	"strings"
	"testing"

	"monocoque/api"
	"monocoque/isa"
)

// P13.3: each operation, with and without labels.
func TestList(t *testing.T) {
	lists(t, nil, "")
	lists(t, []uint32{}, "")
	lists(t, []uint32{0x08800005}, "set r1 5\n")
	lists(t, words(t, isa.Instr{Op: isa.Loop, B: 1, N: 3}, isa.Instr{}), "loop L2 3\nnop\nL2:\n")
	lists(t, words(t, isa.Instr{}, isa.Instr{Op: 1, A: 15, N: -262144}, isa.Instr{Op: 2, A: 2, B: 3}, isa.Instr{Op: 3, A: 10, B: 11}, isa.Instr{Op: 4, N: -1}, isa.Instr{Op: 5, A: 1},
		isa.Instr{Op: 6, B: 1}, isa.Instr{Op: 7, A: 1, B: 1}, isa.Instr{Op: 8}, isa.Instr{Op: 9, A: 9}, isa.Instr{Op: 10, B: 9}, isa.Instr{Op: 11, N: 31}, isa.Instr{Op: 12, A: 3},
		isa.Instr{Op: 13, A: 1, B: 2, N: 3}, isa.Instr{Op: 14, A: 4, B: 5, N: -6}, isa.Instr{Op: 20}, isa.Instr{Op: 21, A: 7}, isa.Instr{Op: 22, A: 8}, isa.Instr{Op: 23, N: 262143}),
		"nop\nset r15 -262144\nmove r2 r3\nadd r10 r11\naddn r0 -1\nsub r1 r0\nmul r0 r1\ndiv r1 r1\nand r0 r0\nor r9 r0\nxor r0 r9\nshl r0 31\nshr r3 0\n"+
			"load r1 r2 3\nstore r4 r5 -6\nret\npush r7\npop r8\ntrap 262143\n")
	lists(t, words(t, isa.Instr{Op: isa.Jump, N: -1}), "L0:\njump L0\n")
	lists(t, words(t, isa.Instr{Op: isa.Jump}), "jump L1\nL1:\n")
	lists(t, words(t, isa.Instr{Op: isa.Call}, isa.Instr{Op: isa.Call, N: 2}, isa.Instr{Op: isa.Call, N: 3}), "L0:\ncall L0\ncall L2\nL2:\ncall L3\nL3:\n")
	lists(t, words(t, isa.Instr{Op: isa.Jz, A: 1, N: 1}, isa.Instr{Op: isa.Jnz, A: 2, N: 0}, isa.Instr{Op: isa.Jump, N: -3}), "L0:\njz r1 L2\njnz r2 L2\nL2:\njump L0\n")
}

// P13.3: a word that is no instruction, wherever it is; it counts ahead of labels that stand for no place.
func TestListNoInstruction(t *testing.T) {
	far := wordOf(isa.Instr{Op: isa.Jump, N: 100})
	for _, w := range []uint32{1, 0xFFFFFFFF, 0xC0000000, 0x90000001, 0x90080000, 0x58000020, 0xA0000001, 0xB8040000} {
		for _, code := range [][]uint32{{w}, {0, w}, {w, 0}, {far, w}, {w, far}, {0, far, 0, w}} {
			if s, e := isa.List(code); s != "" || e != api.ErrCode {
				t.Errorf("List(%x) = %q, %d, want ErrCode", code, s, e)
			}
		}
	}
}

// P13.3: labels that stand for places ahead of the code, of the code, at its end and beyond it.
func TestListPlaces(t *testing.T) {
	for _, i := range []isa.Instr{{Op: isa.Jump}, {Op: isa.Jz, A: 1}, {Op: isa.Jnz, A: 15}, {Op: isa.Call}, {Op: isa.Loop, N: 1}} {
		for _, size := range []int{1, 2, 3, 7, 20, 40} {
			for at := range size {
				for n := -50; n <= 50; n++ {
					x := i
					x.N = n
					if i.Op == isa.Loop {
						x.A, x.B, x.N = n>>4, n&15, 1
					}
					if isValid(x) {
						listsPlace(t, x, at, size)
					}
				}
			}
		}
	}
	for _, n := range []int{-262144, -262143, 262142, 262143} {
		if s, e := isa.List(words(t, isa.Instr{}, isa.Instr{Op: isa.Jump, N: n})); s != "" || e != api.ErrRange {
			t.Errorf("List of a jump by %d = %q, %d, want ErrRange", n, s, e)
		}
	}
}

// listsPlace tells whether List does what the chapter says of i at a place among so many instructions.
func listsPlace(t *testing.T, i isa.Instr, at, size int) {
	t.Helper()
	code := make([]uint32, size)
	code[at] = wordOf(i)
	place, _ := placeOf(i, at)
	s, e := isa.List(code)
	if place < 0 || place > size {
		if s != "" || e != api.ErrRange {
			t.Errorf("List of %v at %d of %d = %q, %d, want ErrRange", i, at, size, s, e)
		}
		return
	}
	if want, _ := slowList(code); s != want || e != api.OK {
		t.Errorf("List of %v at %d of %d = %q, %d, want %q", i, at, size, s, e, want)
	}
	yields(t, s, code...)
}

// some returns code of valid instructions, nearly all of whose labels stand for a place of it.
func some(dice *rand.Rand) (code []uint32) {
	size := dice.Intn(40)
	for at := range size {
		i := isa.Instr{Op: dice.Intn(24)}
		r := rows[i.Op]
		if strings.Contains(r.fields, "A") {
			i.A = dice.Intn(16)
		}
		if strings.Contains(r.fields, "B") {
			i.B = dice.Intn(16)
		}
		if strings.Contains(r.fields, "N") {
			i.N = []int{r.least, r.most, r.least + dice.Intn(r.most-r.least+1)}[dice.Intn(3)]
		}
		if _, ok := placeOf(i, at); ok && dice.Intn(200) > 0 {
			place := dice.Intn(size + 1)
			switch r.name {
			case "call":
				i.N = place
			case "loop":
				place = at + 2 + dice.Intn(max(size-at-1, 1))
				i.A, i.B = (place-at-1)/16, (place-at-1)%16
			default:
				i.N = place - at - 1
			}
		}
		code = append(code, wordOf(i))
	}
	return code
}

// P13.3: code of all sorts, by the chapter's words, and back again.
func TestListAgainstTheChapter(t *testing.T) {
	dice := rand.New(rand.NewSource(3))
	met := map[api.Errno]int{}
	for range 20000 {
		code := some(dice)
		if len(code) > 0 && dice.Intn(10) == 0 {
			code[dice.Intn(len(code))] = dice.Uint32()
		}
		kept := slices.Clone(code)
		s, e := isa.List(code)
		if want, fault := slowList(code); s != want || e != fault {
			t.Fatalf("List(%x) = %q, %d, want %q, %d", code, s, e, want, fault)
		}
		if !slices.Equal(code, kept) {
			t.Fatalf("List changes %x to %x", kept, code)
		}
		if e == api.OK {
			yields(t, s, code...)
		}
		met[e]++
	}
	for _, e := range []api.Errno{api.OK, api.ErrRange, api.ErrCode} {
		if met[e] < 300 {
			t.Errorf("the error %d was met only %d times", e, met[e])
		}
	}
}

// P13.3: as many instructions as a text may have, each with a label.
func TestListLong(t *testing.T) {
	var code []uint32
	for at := range 3500 {
		code = append(code, wordOf(isa.Instr{Op: isa.Jump, N: 3500 - 2*at - 1}))
	}
	s, e := isa.List(code)
	if e != api.OK || strings.Count(s, "\n") != 7000 {
		t.Errorf("List = %d lines, %d", strings.Count(s, "\n"), e)
	}
	yields(t, s, code...)
}

// P13.3: the text of more instructions than Assemble takes.
func TestListBeyondAssemble(t *testing.T) {
	s, e := isa.List(make([]uint32, 20000))
	if s != strings.Repeat("nop\n", 20000) || e != api.OK {
		t.Errorf("List = %d bytes, %d", len(s), e)
	}
}
