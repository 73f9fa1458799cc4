package worst_test

import (
	"math/rand"
	"slices"
	"strconv"
	"strings"

	"monocoque/isa"
)

// writer writes code that layer 16 mostly accepts: functions that call later ones, of blocks within each other.
type writer struct {
	dice      *rand.Rand
	lines     []string
	labels    int
	functions int  // how many there are
	room      int  // how many statements may still be written
	straight  bool // without choices
	repeats   int  // of a loop, at most
}

func (w *writer) line(words ...string) { w.lines = append(w.lines, strings.Join(words, " ")) }

func (w *writer) label() string {
	w.labels++
	return "x" + strconv.Itoa(w.labels)
}

func (w *writer) register() string { return "r" + strconv.Itoa(w.dice.Intn(16)) }

func (w *writer) number(n int) string { return strconv.Itoa(w.dice.Intn(n)) }

// block writes statements of the function with a number.
func (w *writer) block(function, depth int) {
	for range w.dice.Intn(3) + 1 {
		w.room--
		switch kind := w.dice.Intn(4); {
		case w.room < 0:
			w.line("nop")
		case kind == 0 && depth < 5:
			w.loop(function, depth)
		case kind == 1 && depth < 5 && !w.straight:
			w.choice(function, depth)
		default:
			w.simple(function, depth)
		}
	}
}

func (w *writer) loop(function, depth int) {
	end := w.label()
	w.line("loop", end, strconv.Itoa(1+w.dice.Intn(w.repeats)))
	w.block(function, depth+1)
	w.line(end + ":")
}

// choice writes a block that may be skipped, or two of which one is executed.
func (w *writer) choice(function, depth int) {
	other, end := w.label(), w.label()
	w.line([]string{"jz", "jnz"}[w.dice.Intn(2)], w.register(), other)
	w.block(function, depth+1)
	if w.dice.Intn(2) == 0 {
		w.line("jump", end)
		w.line(other + ":")
		w.block(function, depth+1)
	} else {
		w.line(other + ":")
	}
	w.line(end + ":")
}

func (w *writer) simple(function, depth int) {
	switch w.dice.Intn(8) {
	case 0, 1:
		w.line("push", w.register())
		if depth < 5 {
			w.block(function, depth+1)
		}
		w.line("pop", w.register())
	case 2, 3:
		w.call(function)
	case 4:
		w.line("trap", []string{"0", "1", "2", "4", "5", "262143"}[w.dice.Intn(6)])
	case 5:
		w.line([]string{"load", "store"}[w.dice.Intn(2)], w.register(), w.register(), w.number(100))
	case 6:
		w.line([]string{"add", "sub", "mul", "move", "and", "or", "xor"}[w.dice.Intn(7)], w.register(), w.register())
	case 7:
		w.line([]string{"set", "addn", "shl", "shr"}[w.dice.Intn(4)], w.register(), w.number(32))
	}
}

// call writes a call of a later function, or an instruction without effect if there is none.
func (w *writer) call(function int) {
	later := w.functions - function - 1
	if later == 0 {
		w.line("nop")
		return
	}
	w.line("call", "f"+strconv.Itoa(function+1+w.dice.Intn(later)))
}

// write returns the words of functions, of which the first one begins at 0, where a release begins.
func (w *writer) write() []uint32 {
	for f := range w.functions {
		w.line("f" + strconv.Itoa(f) + ":")
		w.block(f, 0)
		if f == 0 || !w.straight && w.dice.Intn(12) == 0 {
			w.line("trap 3")
		} else {
			w.line("ret")
		}
	}
	code, _, _ := isa.Assemble(strings.Join(w.lines, "\n"))
	return code
}

// mutated replaces some of the instructions.
func mutated(dice *rand.Rand, code []uint32, times int) []uint32 {
	code = slices.Clone(code)
	for range times {
		i := isa.Instr{Op: dice.Intn(isa.Ops), N: dice.Intn(5)}
		switch i.Op {
		case isa.Jump, isa.Jz, isa.Jnz:
			i.N = dice.Intn(len(code)+4) - 4
		case isa.Call:
			i.N = dice.Intn(len(code))
		case isa.Loop:
			i.B, i.N = 1+dice.Intn(6), 1+dice.Intn(9)
		}
		if w, e := isa.Encode(i); e == 0 {
			code[dice.Intn(len(code))] = w
		}
		if dice.Intn(200) == 0 {
			code[dice.Intn(len(code))] = dice.Uint32()
		}
	}
	return code
}

// some returns code of all sorts, and a place of it or, rarely, another number.
func some(dice *rand.Rand) (code []uint32, entry int) {
	repeats := []int{1, 3, 1000, 1<<18 - 1}[dice.Intn(4)]
	w := &writer{dice: dice, functions: 1 + dice.Intn(4), room: 18, repeats: repeats}
	code = w.write()
	if dice.Intn(3) == 0 {
		code = mutated(dice, code, 1+dice.Intn(3))
	}
	if dice.Intn(2) == 0 {
		entry = dice.Intn(len(code)+2) - 1
	}
	return code, entry
}

// prices returns a function of random prices, and the prices themselves by the call.
func prices(dice *rand.Rand) (price func(int) int, by map[int]int) {
	by = map[int]int{}
	for _, call := range []int{0, 1, 2, 3, 4, 5, 262143} {
		by[call] = dice.Intn(1<<dice.Intn(44)) - dice.Intn(30)
	}
	return func(call int) int { return by[call] }, by
}
