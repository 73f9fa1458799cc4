package cpu

import (
	"monocoque/api"
	"monocoque/isa"
)

// state is what an effect works on. Its Pc is the place after the instruction, till the effect continues elsewhere.
type state struct {
	Regs
	memory Memory
	call   int
}

// effect does what an operation does. It stores last, so that nothing is stored if there is an error.
type effect func(s *state, i isa.Instr) api.Errno

// effects returns the effects of all operations.
func effects() map[int]effect {
	return map[int]effect{
		isa.Nop:   nop,
		isa.Set:   number(func(_, n uint32) uint32 { return n }),
		isa.Move:  word(func(_, b uint32) uint32 { return b }),
		isa.Add:   word(func(a, b uint32) uint32 { return a + b }),
		isa.Addn:  number(func(a, n uint32) uint32 { return a + n }),
		isa.Sub:   word(func(a, b uint32) uint32 { return a - b }),
		isa.Mul:   word(func(a, b uint32) uint32 { return a * b }),
		isa.Div:   divide,
		isa.And:   word(func(a, b uint32) uint32 { return a & b }),
		isa.Or:    word(func(a, b uint32) uint32 { return a | b }),
		isa.Xor:   word(func(a, b uint32) uint32 { return a ^ b }),
		isa.Shl:   number(func(a, n uint32) uint32 { return a << n }),
		isa.Shr:   number(func(a, n uint32) uint32 { return a >> n }),
		isa.Load:  load,
		isa.Store: store,
		isa.Jump:  jump(func(uint32) bool { return true }),
		isa.Jz:    jump(func(a uint32) bool { return a == 0 }),
		isa.Jnz:   jump(func(a uint32) bool { return a != 0 }),
		isa.Loop:  loop,
		isa.Call:  call,
		isa.Ret:   ret,
		isa.Push:  push,
		isa.Pop:   pop,
		isa.Trap:  trap,
	}
}

func nop(*state, isa.Instr) api.Errno { return api.OK }

// word returns the effect of an operation on A and B.
func word(f func(a, b uint32) uint32) effect {
	return func(s *state, i isa.Instr) api.Errno {
		s.R[i.A] = f(s.R[i.A], s.R[i.B])
		return api.OK
	}
}

// number returns the effect of an operation on A and N.
func number(f func(a, n uint32) uint32) effect {
	return func(s *state, i isa.Instr) api.Errno {
		s.R[i.A] = f(s.R[i.A], uint32(i.N))
		return api.OK
	}
}

func divide(s *state, i isa.Instr) api.Errno {
	if s.R[i.B] == 0 {
		return api.ErrDivide
	}
	s.R[i.A] /= s.R[i.B]
	return api.OK
}

func load(s *state, i isa.Instr) (e api.Errno) {
	s.R[i.A], e = s.memory.Load(s.R[i.B] + uint32(i.N))
	return e
}

func store(s *state, i isa.Instr) api.Errno {
	return s.memory.Store(s.R[i.B]+uint32(i.N), s.R[i.A])
}

// jump returns the effect of a jump that depends on A.
func jump(when func(a uint32) bool) effect {
	return func(s *state, i isa.Instr) api.Errno {
		if when(s.R[i.A]) {
			s.Pc += uint32(i.N)
		}
		return api.OK
	}
}

func loop(s *state, i isa.Instr) api.Errno {
	if s.Depth == Deep {
		return api.ErrDeep
	}
	s.Loops[s.Depth] = Loop{From: s.Pc, End: s.Pc + uint32(16*i.A+i.B), Left: i.N - 1}
	s.Depth++
	return api.OK
}

func call(s *state, i isa.Instr) api.Errno {
	e := s.put(s.Pc)
	s.Pc = uint32(i.N)
	return e
}

func ret(s *state, _ isa.Instr) (e api.Errno) {
	s.Pc, e = s.take()
	return e
}

func push(s *state, i isa.Instr) api.Errno { return s.put(s.R[i.A]) }

func pop(s *state, i isa.Instr) (e api.Errno) {
	s.R[i.A], e = s.take()
	return e
}

func trap(s *state, i isa.Instr) api.Errno {
	s.call = i.N
	return api.OK
}

// put pushes a word.
func (s *state) put(w uint32) api.Errno {
	if s.Sp <= s.Floor || s.Sp > s.Top {
		return api.ErrStack
	}
	s.Sp--
	return s.memory.Store(s.Sp, w)
}

// take pops a word.
func (s *state) take() (uint32, api.Errno) {
	if s.Sp >= s.Top || s.Sp < s.Floor {
		return 0, api.ErrStack
	}
	s.Sp++
	return s.memory.Load(s.Sp - 1)
}
