package verify_test

import (
	"math/rand"
	"slices"
	"strconv"
	"strings"

	"monocoque/api"
	"monocoque/isa"
)

// writer writes code that mostly may be: functions that call later ones, of blocks within each other.
type writer struct {
	dice      *rand.Rand
	lines     []string
	labels    int
	functions int // how many there are
	room      int // how many statements may still be written
}

func (w *writer) line(words ...string) { w.lines = append(w.lines, strings.Join(words, " ")) }

func (w *writer) label() string {
	w.labels++
	return "x" + strconv.Itoa(w.labels)
}

func (w *writer) register() string { return "r" + strconv.Itoa(w.dice.Intn(16)) }

// block writes statements of the function with a number.
func (w *writer) block(function, depth int) {
	for range w.dice.Intn(3) + 1 {
		w.statement(function, depth)
	}
}

func (w *writer) statement(function, depth int) {
	if w.room--; w.room < 0 {
		w.line("nop")
		return
	}
	kind := w.dice.Intn(11)
	if depth > 4 {
		kind = kind/2 + 5
	}
	switch kind {
	case 0, 1:
		end := w.label()
		w.line("loop", end, strconv.Itoa(w.dice.Intn(3)+1))
		w.block(function, depth+1)
		w.line(end + ":")
	case 2:
		end := w.label()
		w.line([]string{"jz", "jnz"}[w.dice.Intn(2)], w.register(), end)
		w.block(function, depth+1)
		w.line(end + ":")
	case 3:
		other, end := w.label(), w.label()
		w.line("jnz", w.register(), other)
		w.block(function, depth+1)
		w.line("jump", end)
		w.line(other + ":")
		w.block(function, depth+1)
		w.line(end + ":")
	case 4, 5:
		w.line("push", w.register())
		w.block(function, depth+1)
		w.line("pop", w.register())
	case 6, 7:
		w.call(function, 1)
	case 8:
		w.line("trap", strconv.Itoa(w.dice.Intn(3)))
	case 9:
		w.line([]string{"load", "store"}[w.dice.Intn(2)], w.register(), w.register(), strconv.Itoa(w.dice.Intn(100)-50))
	case 10:
		w.line([]string{"add", "sub", "mul", "move"}[w.dice.Intn(4)], w.register(), w.register())
	}
}

// written returns code of a writer, and its entries.
func written(dice *rand.Rand, room int) (code []uint32, entries []int) {
	w := &writer{dice: dice, functions: 1 + dice.Intn(4), room: room}
	starts := 1 + dice.Intn(2)
	for f := range w.functions {
		w.line("f" + strconv.Itoa(f) + ":")
		w.block(f, 0)
		if f < starts || dice.Intn(12) == 0 {
			w.line("trap 3")
		} else {
			w.line("ret")
		}
	}
	code, _, _ = isa.Assemble(strings.Join(w.lines, "\n"))
	entries = []int{0}
	for f := 1; f < min(starts, w.functions); f++ {
		// The label is a place of its own in a text without what follows.
		until := slices.Index(w.lines, "f"+strconv.Itoa(f)+":")
		entries = append(entries, lengthOf(w.lines[:until]))
	}
	return code, entries
}

// nested returns code of functions that call later ones out of many loops within each other.
func nested(dice *rand.Rand) (code []uint32) {
	w := &writer{dice: dice, functions: 2 + dice.Intn(3)}
	for f := range w.functions {
		w.line("f" + strconv.Itoa(f) + ":")
		var ends []string
		for range dice.Intn(6) + dice.Intn(2)*dice.Intn(6) {
			ends = append(ends, w.label())
			w.line("loop", ends[len(ends)-1], "1")
			w.call(f, 8)
		}
		w.call(f, 1)
		slices.Reverse(ends)
		for _, end := range ends {
			w.call(f, 8)
			w.line(end + ":")
		}
		w.call(f, 3)
		if f == 0 || dice.Intn(10) == 0 {
			w.line("trap 3")
		} else {
			w.line("ret")
		}
	}
	code, _, _ = isa.Assemble(strings.Join(w.lines, "\n"))
	return code
}

// call writes, once in so many times, a call of a later function if there is one, and otherwise an instruction without effect.
func (w *writer) call(function, times int) {
	later := w.functions - function - 1
	if later == 0 || w.dice.Intn(times) > 0 {
		w.line("nop")
		return
	}
	w.line("call", "f"+strconv.Itoa(function+1+w.dice.Intn(later)))
}

// lengthOf returns the number of instructions of lines.
func lengthOf(lines []string) (n int) {
	for _, l := range lines {
		if !strings.HasSuffix(l, ":") {
			n++
		}
	}
	return n
}

// random returns an instruction at a place of code of some size, most of whose places are within the code.
func random(dice *rand.Rand, at, size int) isa.Instr {
	for {
		i := isa.Instr{Op: []int{
			isa.Nop, isa.Jump, isa.Jz, isa.Jnz, isa.Loop, isa.Loop, isa.Call, isa.Call, isa.Ret, isa.Push, isa.Push, isa.Pop, isa.Trap,
		}[dice.Intn(13)]}
		switch i.Op {
		case isa.Jump, isa.Jz, isa.Jnz:
			i.N = dice.Intn(max(size-at, 1))
			if dice.Intn(8) == 0 {
				i.N = dice.Intn(2*size) - size
			}
		case isa.Loop:
			n := 1 + dice.Intn(max(min(size-at-1, 255), 1))
			i.A, i.B, i.N = n/16, n%16, 1+dice.Intn(3)
		case isa.Call:
			i.N = dice.Intn(size + dice.Intn(10)/9)
		case isa.Trap:
			i.N = 3 * dice.Intn(2)
		}
		if _, e := isa.Encode(i); e == api.OK {
			return i
		}
	}
}

// mutated replaces some of the instructions, and rarely a word by any other one.
func mutated(dice *rand.Rand, code []uint32, times int) []uint32 {
	code = slices.Clone(code)
	for range times {
		at := dice.Intn(len(code))
		code[at], _ = isa.Encode(random(dice, at, len(code)))
		if dice.Intn(100) == 0 {
			code[at] = dice.Uint32()
		}
	}
	return code
}

// some returns code of all sorts, entries and a stack.
func some(dice *rand.Rand) (code []uint32, entries []int, stack int) {
	switch dice.Intn(4) {
	case 0:
		code = mutated(dice, make([]uint32, 2+dice.Intn(12)), 16)
		code[len(code)-1] = uint32(isa.Trap)<<27 + 3
		entries = []int{dice.Intn(len(code))}
	case 1:
		code, entries = written(dice, 14)
	case 2:
		code, entries = written(dice, 14)
		code = mutated(dice, code, 1+dice.Intn(2))
	case 3:
		code, entries = mutated(dice, nested(dice), dice.Intn(4)/3), []int{0}
	}
	for dice.Intn(4) == 0 {
		entries = append(entries, dice.Intn(len(code)))
	}
	return code, entries, dice.Intn(8)
}
