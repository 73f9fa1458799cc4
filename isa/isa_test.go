package isa_test

import (
	"math"
	"math/rand"
	"testing"

	"monocoque/api"
	"monocoque/isa"
)

// The chapter's names of the operations, in its order.
func TestNames(t *testing.T) {
	l := []int{
		isa.Nop, isa.Set, isa.Move, isa.Add, isa.Addn, isa.Sub, isa.Mul, isa.Div, isa.And, isa.Or, isa.Xor, isa.Shl, isa.Shr,
		isa.Load, isa.Store, isa.Jump, isa.Jz, isa.Jnz, isa.Loop, isa.Call, isa.Ret, isa.Push, isa.Pop, isa.Trap, isa.Ops,
	}
	for i, op := range l {
		if op != i {
			t.Errorf("the operation %d is %d", i, op)
		}
	}
}

// P13.1: the chapter's example, and words that are written out.
func TestEncodeWords(t *testing.T) {
	for i, want := range map[isa.Instr]uint32{
		{}:                                0,
		{Op: isa.Set, A: 1, N: 5}:         0x08800005,
		{Op: isa.Set, A: 15, N: -1}:       0x0FFFFFFF &^ 0x00780000,
		{Op: isa.Set, N: -262144}:         0x08040000,
		{Op: isa.Set, N: 262143}:          0x0803FFFF,
		{Op: isa.Move, A: 15, B: 15}:      0x17F80000,
		{Op: isa.Load, A: 1, B: 2, N: 3}:  0x68900003,
		{Op: isa.Store, A: 8, B: 1, N: 0}: 0x74080000,
		{Op: isa.Jump, N: -1}:             0x7807FFFF,
		{Op: isa.Loop, B: 1, N: 1}:        0x90080001,
		{Op: isa.Loop, A: 1, N: 262143}:   0x9083FFFF,
		{Op: isa.Ret}:                     0xA0000000,
		{Op: isa.Trap, N: 3}:              0xB8000003,
	} {
		if w, e := isa.Encode(i); w != want || e != api.OK {
			t.Errorf("Encode(%v) = %08x, %d, want %08x", i, w, e, want)
		}
		if got, e := isa.Decode(want); got != i || e != api.OK {
			t.Errorf("Decode(%08x) = %v, %d, want %v", want, got, e, i)
		}
	}
}

// encodes tells whether Encode does what the chapter says of i, and Decode takes it back.
func encodes(t *testing.T, i isa.Instr) {
	t.Helper()
	w, e := isa.Encode(i)
	if !isValid(i) {
		if w != 0 || e != api.ErrCode {
			t.Errorf("Encode(%v) = %08x, %d, want ErrCode", i, w, e)
		}
		return
	}
	if w != wordOf(i) || e != api.OK {
		t.Errorf("Encode(%v) = %08x, %d, want %08x", i, w, e, wordOf(i))
	}
	if got, e := isa.Decode(w); got != i || e != api.OK {
		t.Errorf("Decode(%08x) = %v, %d, want %v", w, got, e, i)
	}
}

// P13.1: each operation, and what is none, with fields at and beyond the ends of what may be.
func TestEncode(t *testing.T) {
	registers := []int{math.MinInt, -1 << 32, -16, -1, 0, 1, 2, 7, 8, 14, 15, 16, 17, 32, 1 << 32, math.MaxInt}
	ops := []int{math.MinInt, -1 << 32, -2, -1, 24, 25, 31, 32, 33, 1 << 32, 1<<32 + 1, math.MaxInt}
	for op := range 24 {
		ops = append(ops, op)
	}
	for _, op := range ops {
		for _, a := range registers {
			for _, b := range registers {
				for _, n := range numbers {
					encodes(t, isa.Instr{Op: op, A: a, B: b, N: n})
				}
			}
		}
	}
}

// P13.1: for Decode each operation and each pair of registers, with numbers at the ends of what may be.
func TestDecode(t *testing.T) {
	for high := range uint32(1 << 13) {
		for _, n := range []uint32{0, 1, 2, 30, 31, 32, 33, 255, 256, 1<<18 - 1, 1 << 18, 1<<18 + 1, 1<<19 - 33, 1<<19 - 2, 1<<19 - 1} {
			decodes(t, high<<19|n)
		}
	}
	dice := rand.New(rand.NewSource(1))
	for range 300000 {
		decodes(t, dice.Uint32())
	}
}

// decodes tells whether Decode does what the chapter says of w.
func decodes(t *testing.T, w uint32) {
	t.Helper()
	want := isa.Instr{Op: int(w) / 134217728, A: int(w) / 8388608 % 16, B: int(w) / 524288 % 16, N: int(w) % 524288}
	if want.N >= 262144 {
		want.N -= 524288
	}
	e := api.OK
	if !isValid(want) {
		want, e = isa.Instr{}, api.ErrCode
	}
	if got, err := isa.Decode(w); got != want || err != e {
		t.Errorf("Decode(%08x) = %v, %d, want %v, %d", w, got, err, want, e)
	}
}

// P13.1: the price of each operation, and of what is none.
func TestPrice(t *testing.T) {
	for op, r := range rows {
		if p := isa.Price(op); p != r.price {
			t.Errorf("Price(%d) = %d, want %d", op, p, r.price)
		}
	}
	for _, op := range []int{math.MinInt, -1 << 32, -24, -1, 24, 25, 31, 32, 1 << 32, 1<<32 + 7, math.MaxInt} {
		if p := isa.Price(op); p != 0 {
			t.Errorf("Price(%d) = %d, want 0", op, p)
		}
	}
}
