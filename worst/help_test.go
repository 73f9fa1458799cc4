package worst_test

import (
	"math/big"
	"slices"
	"testing"

	"monocoque/api"
	"monocoque/isa"
	"monocoque/verify"
	"monocoque/worst"
)

// most is the greatest bound that Bound returns.
const most = 1 << 40

// assemble returns the words of a text.
func assemble(t *testing.T, s string) []uint32 {
	t.Helper()
	code, line, e := isa.Assemble(s)
	if e != api.OK {
		t.Fatalf("Assemble(%q) = %d, %d", s, line, e)
	}
	return code
}

// encode returns the word of an instruction.
func encode(t *testing.T, i isa.Instr) uint32 {
	t.Helper()
	w, e := isa.Encode(i)
	if e != api.OK {
		t.Fatalf("Encode(%v) = %d", i, e)
	}
	return w
}

// each returns the same price for each call.
func each(ticks int) func(int) int { return func(int) int { return ticks } }

// bounds tells whether Bound returns those ticks, or that error.
func bounds(t *testing.T, code []uint32, entry int, price func(int) int, ticks int, e api.Errno) {
	t.Helper()
	kept := slices.Clone(code)
	if got, gotE := worst.Bound(code, entry, price); got != ticks || gotE != e {
		text, _ := isa.List(code)
		t.Errorf("Bound(%q, %d) = %d, %d, want %d, %d", text, entry, got, gotE, ticks, e)
	}
	if !slices.Equal(code, kept) {
		t.Errorf("Bound changes %v to %v", kept, code)
	}
}

// stacks tells whether Stack returns those words, or that error.
func stacks(t *testing.T, code []uint32, entry, words int, e api.Errno) {
	t.Helper()
	kept := slices.Clone(code)
	if got, gotE := worst.Stack(code, entry); got != words || gotE != e {
		text, _ := isa.List(code)
		t.Errorf("Stack(%q, %d) = %d, %d, want %d, %d", text, entry, got, gotE, words, e)
	}
	if !slices.Equal(code, kept) {
		t.Errorf("Stack changes %v to %v", kept, code)
	}
}

// slow is what the chapter's tables say, path by path, of code that layer 16 accepts.
type slow struct {
	list  []isa.Instr
	price func(int) int
}

func newSlow(code []uint32, price func(int) int) slow {
	s := slow{price: price}
	for _, w := range code {
		i, _ := isa.Decode(w)
		s.list = append(s.list, i)
	}
	return s
}

// cost is the price of an instruction, and that of the call that it requests.
func (s slow) cost(i isa.Instr) *big.Int {
	n := big.NewInt(int64(isa.Price(i.Op)))
	if i.Op == isa.Trap && s.price != nil && s.price(i.N) > 0 {
		n.Add(n, big.NewInt(int64(s.price(i.N))))
	}
	return n
}

// ticks is the maximum number of ticks from p to g; g is -1 if there is no goal.
func (s slow) ticks(p, g int) *big.Int {
	if p == g {
		return new(big.Int)
	}
	i := s.list[p]
	n := s.cost(i)
	switch i.Op {
	case isa.Jump:
		return n.Add(n, s.ticks(p+1+i.N, g))
	case isa.Jz, isa.Jnz:
		a, b := s.ticks(p+1+i.N, g), s.ticks(p+1, g)
		if a.Cmp(b) < 0 {
			a = b
		}
		return n.Add(n, a)
	case isa.Loop:
		end := p + 1 + 16*i.A + i.B
		body := s.ticks(p+1, end)
		n.Add(n, body.Mul(body, big.NewInt(int64(i.N))))
		return n.Add(n, s.ticks(end, g))
	case isa.Call:
		n.Add(n, s.ticks(i.N, -1))
		return n.Add(n, s.ticks(p+1, g))
	case isa.Ret:
		return n
	case isa.Trap:
		if i.N == 3 {
			return n
		}
	}
	return n.Add(n, s.ticks(p+1, g))
}

// greatest goes all ways from a place with a height to the ends of its function, and returns the greatest height on them.
// It passes through each body once: it is left at the height at which it is entered.
func (s slow) greatest(p, height int) int {
	i := s.list[p]
	switch i.Op {
	case isa.Jump:
		return s.greatest(p+1+i.N, height)
	case isa.Jz, isa.Jnz:
		return max(s.greatest(p+1+i.N, height), s.greatest(p+1, height))
	case isa.Call:
		return max(s.greatest(i.N, height+1), s.greatest(p+1, height))
	case isa.Push:
		return max(height+1, s.greatest(p+1, height+1))
	case isa.Pop:
		return max(height, s.greatest(p+1, height-1))
	case isa.Ret:
		return height
	case isa.Trap:
		if i.N == 3 {
			return height
		}
	}
	return max(height, s.greatest(p+1, height))
}

// slowBound is Bound.
func slowBound(code []uint32, entry int, price func(int) int) (int, api.Errno) {
	if _, e := verify.Check(code, []int{entry}, 4096); e != api.OK {
		return 0, e
	}
	ticks := newSlow(code, price).ticks(entry, -1)
	if ticks.Cmp(big.NewInt(most)) > 0 {
		return 0, api.ErrTime
	}
	return int(ticks.Int64()), api.OK
}

// slowStack is Stack.
func slowStack(code []uint32, entry int) (int, api.Errno) {
	if _, e := verify.Check(code, []int{entry}, 4096); e != api.OK {
		return 0, e
	}
	return newSlow(code, nil).greatest(entry, 0), api.OK
}
