package worst_test

import (
	"maps"
	"math"
	"math/rand"
	"slices"
	"strconv"
	"strings"
	"testing"

	"monocoque/api"
	"monocoque/isa"
	"monocoque/verify"
	"monocoque/worst"
)

// The examples of the chapter.
func TestExamples(t *testing.T) {
	code := assemble(t, "set r1 5\ntrap 3")
	bounds(t, code, 0, nil, 2, api.OK)
	bounds(t, code, 0, each(0), 2, api.OK)
	stacks(t, code, 0, 0, api.OK)
	code = assemble(t, "loop x 5\npush r1\npop r1\nx: trap 3")
	bounds(t, code, 0, nil, 1+5*4+1, api.OK)
	stacks(t, code, 0, 1, api.OK)
}

// P17.1: the price of each operation, alone ahead of the end.
func TestOperations(t *testing.T) {
	for _, c := range []struct {
		s            string
		ticks, words int
	}{
		{"nop", 1, 0}, {"set r1 7", 1, 0}, {"move r1 r2", 1, 0}, {"add r1 r2", 1, 0}, {"addn r1 7", 1, 0},
		{"sub r1 r2", 1, 0}, {"mul r1 r2", 3, 0}, {"div r1 r2", 8, 0}, {"and r1 r2", 1, 0}, {"or r1 r2", 1, 0},
		{"xor r1 r2", 1, 0}, {"shl r1 7", 1, 0}, {"shr r1 7", 1, 0}, {"load r1 r2 7", 2, 0}, {"store r1 r2 7", 2, 0},
		{"push r1", 2, 1}, {"push r1\npop r1", 4, 1}, {"trap 0", 1, 0}, {"trap 2", 1, 0}, {"trap 4", 1, 0}, {"trap 262143", 1, 0},
		{"jump x\nx: nop", 2, 0}, {"jz r1 x\nx: nop", 2, 0}, {"jnz r1 x\nx: nop", 2, 0}, {"loop x 1\nnop\nx: nop", 3, 0},
		{"nop\nnop\nnop", 3, 0},
	} {
		code := assemble(t, c.s+"\ntrap 3")
		bounds(t, code, 0, nil, c.ticks+1, api.OK)
		stacks(t, code, 0, c.words, api.OK)
	}
}

// P17.1: the instructions at which paths part, end, or are repeated.
func TestPaths(t *testing.T) {
	for _, c := range []struct {
		s                   string
		entry, ticks, words int
	}{
		{"trap 3", 0, 1, 0},
		// A jump leaves out what is ahead of its place.
		{"jump x\npush r1\ndiv r1 r1\nx: trap 3", 0, 2, 0},
		{"jump x\ny: mul r1 r1\ntrap 3\nx: push r1\njump z\nz: trap 3", 0, 5, 1},
		// The greater one, be it what is jumped to or what is not, for ticks and words on their own.
		{"jz r1 x\nmul r1 r1\ntrap 3\nx: trap 3", 0, 5, 0},
		{"jz r1 x\ntrap 3\nx: mul r1 r1\ntrap 3", 0, 5, 0},
		{"jnz r1 x\nmul r1 r1\ntrap 3\nx: trap 3", 0, 5, 0},
		{"jnz r1 x\ntrap 3\nx: mul r1 r1\ntrap 3", 0, 5, 0},
		{"jz r1 x\nmul r1 r1\ntrap 3\nx: push r1\ntrap 3", 0, 5, 1},
		{"jnz r1 x\npush r1\ntrap 3\nx: mul r1 r1\ntrap 3", 0, 5, 1},
		{"jz r1 x\nx: trap 3", 0, 2, 0},
		{"jz r1 x\njz r2 x\nmul r1 r1\nx: nop\ntrap 3", 0, 7, 0},
		// The body of a loop up to its end, and then what follows.
		{"loop x 7\nnop\nx: trap 3", 0, 9, 0},
		{"loop x 7\nnop\nmul r1 r1\nx: mul r1 r1\ntrap 3", 0, 1 + 7*4 + 3 + 1, 0},
		{"loop x 7\njz r1 y\nmul r1 r1\ny: nop\nx: trap 3", 0, 1 + 7*5 + 1, 0},
		{"loop x 7\njz r1 x\nmul r1 r1\nx: trap 3", 0, 1 + 7*4 + 1, 0},
		{"loop x 7\njz r1 y\njump x\ny: mul r1 r1\nx: trap 3", 0, 1 + 7*4 + 1, 0},
		{"loop x 7\njump x\ny: mul r1 r1\nx: trap 3", 0, 1 + 7 + 1, 0},
		{"loop x 262143\nnop\nx: trap 3", 0, 262145, 0},
		// Loops one after another, within each other, and with the same end.
		{"loop x 3\nnop\nx: loop y 4\nnop\ny: trap 3", 0, 1 + 3 + 1 + 4 + 1, 0},
		{"loop x 3\nloop y 4\nnop\ny: nop\nx: trap 3", 0, 1 + 3*(1+4+1) + 1, 0},
		{"loop x 3\nloop x 4\nnop\nx: trap 3", 0, 1 + 3*(1+4) + 1, 0},
		{"loop x 3\nmul r1 r1\nloop x 4\njz r1 x\nnop\nx: mul r1 r1\ntrap 3", 0, 1 + 3*(3+1+4*2) + 3 + 1, 0},
		{"loop x 2\nloop x 2\nloop x 2\nloop x 2\nloop x 2\nloop x 2\nloop x 2\nloop x 2\nnop\nx: trap 3", 0, 512, 0},
		// An entry in a body: its end is passed.
		{"loop x 7\nnop\nmul r1 r1\nx: push r1\ntrap 3", 1, 1 + 3 + 2 + 1, 1},
		{"loop x 7\nnop\nmul r1 r1\nx: push r1\ntrap 3", 2, 3 + 2 + 1, 1},
		{"loop x 3\nloop y 4\nnop\ny: mul r1 r1\nx: trap 3", 1, 1 + 4 + 3 + 1, 0},
		{"loop x 3\nloop y 4\nnop\ny: mul r1 r1\nx: trap 3", 2, 1 + 3 + 1, 0},
		{"loop x 3\nloop x 4\nnop\nx: trap 3", 1, 1 + 4 + 1, 0},
		// A call: the whole function, and then what follows.
		{"call f\ntrap 3\nf: ret", 0, 2 + 2 + 1, 1},
		{"call f\nmul r1 r1\ncall f\ntrap 3\nf: jz r1 x\npush r1\npop r1\nx: ret", 0, 2*(2+1+4+2) + 3 + 1, 2},
		{"f: mul r1 r1\nret\nm: call f\ntrap 3", 2, 2 + 3 + 2 + 1, 1},
		{"call f\ntrap 3\nf: call g\nret\ng: call h\npush r1\npop r1\nret\nh: ret", 0, 17, 3},
		// A release may end in a function; what follows its call counts all the same.
		{"call f\nmul r1 r1\ntrap 3\nf: nop\ntrap 3", 0, 2 + 1 + 1 + 3 + 1, 1},
		{"call f\npush r1\npush r1\ntrap 3\nf: trap 3", 0, 2 + 1 + 4 + 1, 2},
		// A function that begins in another one.
		{"call g\ncall f\ntrap 3\nf: push r1\npop r1\ng: ret", 0, 2 + 2 + 2 + 6 + 1, 2},
		// A call in a loop, of a function with a loop.
		{"loop x 3\ncall f\nx: trap 3\nf: loop y 4\nnop\ny: ret", 0, 1 + 3*(2+1+4+2) + 1, 1},
		// A function that a body calls goes on at the end of this body.
		{"loop x 3\ncall x\nx: trap 3", 0, 1 + 3*(2+1) + 1, 1},
		{"call f\ntrap 3\nf: loop x 3\ncall x\nx: ret", 0, 2 + 1 + 3*(2+2) + 2 + 1, 2},
		// Heights.
		{"push r1\npush r1\npop r1\npop r1\npush r1\ntrap 3", 0, 11, 2},
		{"push r1\npop r1\npush r1\npush r1\npush r1\ntrap 3", 0, 11, 3},
		{"push r1\ncall f\npop r1\ncall f\ntrap 3\nf: push r1\npush r1\npop r1\npop r1\nret", 0, 2 + 12 + 2 + 12 + 1, 4},
		{"push r1\npush r1\npop r1\ncall f\ntrap 3\nf: ret", 0, 6 + 4 + 1, 2},
		{"call f\npush r1\npush r1\npush r1\ntrap 3\nf: push r1\npop r1\nret", 0, 2 + 6 + 6 + 1, 3},
		{"loop x 9\npush r1\npush r1\npop r1\npop r1\nx: push r1\ntrap 3", 0, 1 + 9*8 + 2 + 1, 2},
		{"loop x 9\npush r1\npop r1\nx: push r1\npush r1\ntrap 3", 0, 1 + 9*4 + 4 + 1, 2},
		{"push r1\nloop x 9\npush r1\npop r1\nx: pop r1\ntrap 3", 0, 2 + 1 + 9*4 + 2 + 1, 2},
		{"jz r1 x\ntrap 3\nx: pop r1\ny: push r1\npush r1\ntrap 3", 4, 2 + 1, 1},
		// Code that no path leads to does not count.
		{"trap 3\npush r1\nmul r1 r1\ntrap 3", 0, 1, 0},
		{"trap 3\npush r1\nmul r1 r1\ntrap 3", 2, 4, 0},
		{"trap 3\npop r1\nret\ntrap 3", 3, 1, 0},
	} {
		code := assemble(t, c.s)
		bounds(t, code, c.entry, nil, c.ticks, api.OK)
		bounds(t, code, c.entry, each(0), c.ticks, api.OK)
		stacks(t, code, c.entry, c.words, api.OK)
	}
}

// P17.1: prices of calls.
func TestPrices(t *testing.T) {
	price := func(call int) int {
		return map[int]int{0: 100, 1: 20, 2: -5, 3: 7000, 4: math.MinInt, 262143: 300000}[call]
	}
	for _, c := range []struct {
		s     string
		ticks int
	}{
		{"trap 3", 7001},
		{"trap 0\ntrap 3", 7102},
		{"trap 1\ntrap 0\ntrap 1\ntrap 3", 7144},
		{"trap 2\ntrap 3", 7002},
		{"trap 4\ntrap 3", 7002},
		{"trap 5\ntrap 3", 7002},
		{"trap 262143\ntrap 3", 307002},
		{"jz r1 x\ntrap 0\ntrap 3\nx: trap 1\nmul r1 r1\ntrap 3", 1 + 101 + 7001},
		{"jz r1 x\ntrap 0\nx: trap 3", 1 + 101 + 7001},
		{"loop x 6\ntrap 1\nx: trap 3", 1 + 6*21 + 7001},
		{"call f\ntrap 3\nf: trap 1\nret", 2 + 21 + 2 + 7001},
		{"call f\ntrap 3\nf: trap 3", 2 + 7001 + 7001},
		{"trap 3\ntrap 0\ntrap 3", 7001},
	} {
		bounds(t, assemble(t, c.s), 0, price, c.ticks, api.OK)
	}
	// Less than nothing is nothing, even in a loop.
	for _, ticks := range []int{0, -1, -2, -1000, math.MinInt} {
		bounds(t, assemble(t, "loop x 262143\ntrap 1\nx: trap 3"), 0, each(ticks), 262145, api.OK)
	}
}

// P17.1: bounds about the greatest one.
func TestTime(t *testing.T) {
	one := assemble(t, "trap 3")
	two := assemble(t, "trap 0\ntrap 3")
	loop := assemble(t, "loop x 1024\ntrap 0\nx: nop\ntrap 3")
	first := func(ticks int) func(int) int {
		return func(call int) int {
			if call == 0 {
				return ticks
			}
			return 0
		}
	}
	bounds(t, one, 0, each(most-1), most, api.OK)
	bounds(t, two, 0, first(most-2), most, api.OK)
	bounds(t, two, 0, each(most/2-1), most, api.OK)
	bounds(t, loop, 0, first(1<<30-2), 1<<40-1024+3, api.OK)
	for _, c := range []struct {
		code  []uint32
		price func(int) int
	}{
		{one, each(most)}, {one, each(most + 1)}, {one, each(math.MaxInt)}, {one, each(math.MaxInt - 1)}, {one, each(1 << 62)},
		{two, first(most - 1)}, {two, first(most)}, {two, each(most / 2)}, {two, each(math.MaxInt)}, {two, each(1 << 62)}, {two, first(1 << 62)},
		{loop, first(1<<30 - 1)}, {loop, first(1 << 30)}, {loop, first(1 << 53)}, {loop, first(1 << 54)}, {loop, first(1 << 55)}, {loop, first(math.MaxInt)},
	} {
		bounds(t, c.code, 0, c.price, 0, api.ErrTime)
		stacks(t, c.code, 0, 0, api.OK)
	}
	// Of two ways one is too long.
	either := assemble(t, "jz r1 x\ntrap 0\nx: trap 3")
	bounds(t, either, 0, first(most-3), most, api.OK)
	bounds(t, either, 0, first(most-2), 0, api.ErrTime)
	either = assemble(t, "jz r1 x\njump y\nx: trap 0\ny: trap 3")
	bounds(t, either, 0, first(math.MaxInt), 0, api.ErrTime)
	// What is too long counts nowhere but on a path.
	bounds(t, assemble(t, "trap 3\ntrap 0\ntrap 3"), 0, first(math.MaxInt), 1, api.OK)
}

// nested returns loops within each other with one instruction in the innermost one.
func nested(t *testing.T, depth, times int) []uint32 {
	return assemble(t, strings.Repeat("loop x "+strconv.Itoa(times)+"\n", depth)+"nop\nx: trap 3")
}

// P17.1: loops within each other, the bounds of which are beyond all numbers of 64 bits.
func TestDeepLoops(t *testing.T) {
	bounds(t, nested(t, 2, 262143), 0, nil, 2+262143*262144, api.OK)
	for depth := 3; depth <= 8; depth++ {
		bounds(t, nested(t, depth, 262143), 0, nil, 0, api.ErrTime)
		bounds(t, nested(t, depth, 262143), 0, each(math.MaxInt), 0, api.ErrTime)
		stacks(t, nested(t, depth, 262143), 0, 0, api.OK)
	}
	bounds(t, nested(t, 7, 32), 0, nil, (1<<40-1)/31+1, api.OK) // 32^7 + 32^6 + ... + 1 and the end
	bounds(t, nested(t, 8, 32), 0, nil, 0, api.ErrTime)         // 2^40 and a little more
}

// P17.1: the errors of layer 16, ahead of that of too much time.
func TestErrors(t *testing.T) {
	for _, c := range []struct {
		s     string
		entry int
		e     api.Errno
	}{
		{"trap 0\ntrap 3", -1, api.ErrRange},
		{"trap 0\ntrap 3", 2, api.ErrRange},
		{"trap 0\ntrap 3", math.MaxInt, api.ErrRange},
		{"trap 0\ntrap 3", math.MinInt, api.ErrRange},
		{"trap 0\nnop", 0, api.ErrRange},
		{"trap 0\nx: jump x", 0, api.ErrLoop},
		{"trap 0\ncall f\ntrap 3\nf: call f\nret", 0, api.ErrDeep},
		{"trap 0\npop r1\ntrap 3", 0, api.ErrStack},
		{"trap 0\nret", 0, api.ErrStack},
		{"trap 0\ntrap 3\npop r1\nret", 2, api.ErrStack},
		{strings.Repeat("loop x 2\n", 9) + "trap 0\nx: trap 3", 0, api.ErrDeep},
	} {
		bounds(t, assemble(t, c.s), c.entry, each(math.MaxInt), 0, c.e)
		bounds(t, assemble(t, c.s), c.entry, nil, 0, c.e)
		stacks(t, assemble(t, c.s), c.entry, 0, c.e)
	}
	stacks(t, nil, 0, 0, api.ErrRange)
	bounds(t, nil, 0, nil, 0, api.ErrRange)
	for _, w := range []uint32{1, 24 << 27, math.MaxUint32} {
		stacks(t, append([]uint32{w}, assemble(t, "trap 3")...), 1, 0, api.ErrCode)
		bounds(t, append([]uint32{w}, assemble(t, "trap 3")...), 1, each(most), 0, api.ErrCode)
	}
	// Only the entry that is asked for counts.
	code := assemble(t, "trap 3\npop r1\ntrap 3")
	stacks(t, code, 0, 0, api.OK)
	stacks(t, code, 1, 0, api.ErrStack)
	stacks(t, code, 2, 0, api.OK)
}

// P17.1: as much code as there can be, with the greatest stack.
func TestGreat(t *testing.T) {
	pushes := slices.Repeat([]uint32{encode(t, isa.Instr{Op: isa.Push})}, 4095)
	end := encode(t, isa.Instr{Op: isa.Trap, N: 3})
	bounds(t, append(pushes, end), 0, nil, 2*4095+1, api.OK)
	stacks(t, append(pushes, end), 0, 4095, api.OK)
	bounds(t, append(pushes, end, end), 0, nil, 0, api.ErrRange)
	stacks(t, append(pushes, end, end), 0, 0, api.ErrRange)
}

// P17.1: code with far more ways through it than could be gone.
func TestManyWays(t *testing.T) {
	// Each second instruction is left out or not.
	code := make([]uint32, 4096)
	for at := range code[:4094] {
		code[at] = encode(t, isa.Instr{Op: isa.Jz, N: 1})
		if at%2 == 1 {
			code[at] = encode(t, isa.Instr{Op: isa.Mul})
		}
	}
	code[4095] = encode(t, isa.Instr{Op: isa.Trap, N: 3})
	bounds(t, code, 0, nil, 2047*4+1+1, api.OK)
	stacks(t, code, 0, 0, api.OK)
	// Each function calls the next one twice.
	calls := func(n int) (code []uint32) {
		for f := range n {
			next := encode(t, isa.Instr{Op: isa.Call, N: 3 * (f + 1)})
			last := isa.Instr{Op: isa.Ret}
			if f == 0 {
				last = isa.Instr{Op: isa.Trap, N: 3}
			}
			code = append(code, next, next, encode(t, last))
		}
		return append(code, encode(t, isa.Instr{Op: isa.Ret}))
	}
	// A function takes 2 ticks, or twice as many as the next one and 6 more; the first one has no ret.
	bounds(t, calls(37), 0, nil, 8*(1<<37)-6-1, api.OK)
	bounds(t, calls(38), 0, nil, 0, api.ErrTime)
	for _, n := range []int{1, 2, 37, 38, 64, 1000, 1365} {
		stacks(t, calls(n), 0, n, api.OK)
	}
	bounds(t, calls(1365), 0, nil, 0, api.ErrTime)
}

// P17.1: code of all sorts, by the chapter's tables.
func TestAgainstTheChapter(t *testing.T) {
	dice := rand.New(rand.NewSource(1))
	met := map[api.Errno]int{}
	for range 12000 {
		code, entry := some(dice)
		price, _ := prices(dice)
		if dice.Intn(5) == 0 {
			price = nil
		}
		ticks, e := slowBound(code, entry, price)
		bounds(t, code, entry, price, ticks, e)
		words, eStack := slowStack(code, entry)
		stacks(t, code, entry, words, eStack)
		met[e]++
		if t.Failed() {
			return
		}
	}
	for _, e := range []api.Errno{api.OK, api.ErrTime, api.ErrRange, api.ErrLoop, api.ErrStack, api.ErrDeep, api.ErrCode} {
		if met[e] < 20 {
			t.Errorf("the error %d was met only %d times", e, met[e])
		}
	}
}

// P17.1: Stack returns the smallest stack with which layer 16 accepts the code.
func TestSmallestStack(t *testing.T) {
	dice := rand.New(rand.NewSource(2))
	met := map[int]int{}
	for range 8000 {
		code, entry := some(dice)
		words, e := worst.Stack(code, entry)
		if e != api.OK {
			continue
		}
		met[words]++
		if at, e := verify.Check(code, []int{entry}, words); e != api.OK {
			t.Fatalf("Check(%v, %d, %d) = %d, %d", code, entry, words, at, e)
		}
		if at, e := verify.Check(code, []int{entry}, words-1); words > 0 && e != api.ErrStack {
			t.Fatalf("Check(%v, %d, %d) = %d, %d", code, entry, words-1, at, e)
		}
	}
	for words := range 6 {
		if met[words] < 20 {
			t.Errorf("%d words were met only %d times", words, met[words])
		}
	}
}

// P17.2: with higher prices, no bound becomes smaller.
func TestHigherPrices(t *testing.T) {
	dice := rand.New(rand.NewSource(3))
	met := map[string]int{}
	for range 8000 {
		code, entry := some(dice)
		price, by := prices(dice)
		ticks, e := worst.Bound(code, entry, price)
		higher := maps.Clone(by)
		for call := range higher {
			if dice.Intn(2) == 0 {
				higher[call] += dice.Intn(1 << dice.Intn(40))
			}
		}
		more, eMore := worst.Bound(code, entry, func(call int) int { return higher[call] })
		switch {
		case e == api.OK && eMore == api.OK && more > ticks:
			met["more"]++
		case e == api.OK && eMore == api.OK && more == ticks:
			met["the same"]++
		case e == api.OK && eMore == api.ErrTime:
			met["too much"]++
		case e == eMore:
			met["an error"]++
		default:
			t.Fatalf("Bound(%v, %d) = %d, %d with the prices %v, and %d, %d with %v", code, entry, ticks, e, by, more, eMore, higher)
		}
	}
	for _, name := range []string{"more", "the same", "too much", "an error"} {
		if met[name] < 50 {
			t.Errorf("%s: only %d times", name, met[name])
		}
	}
}
