package verify_test

import (
	"slices"
	"testing"

	"monocoque/api"
	"monocoque/isa"
	"monocoque/verify"
)

// assemble returns the words of a text.
func assemble(t *testing.T, s string) []uint32 {
	t.Helper()
	code, line, e := isa.Assemble(s)
	if e != api.OK {
		t.Fatalf("Assemble(%q) = %d, %d", s, line, e)
	}
	return code
}

// encode returns the words of instructions.
func encode(t *testing.T, l ...isa.Instr) (code []uint32) {
	t.Helper()
	for _, i := range l {
		w, e := isa.Encode(i)
		if e != api.OK {
			t.Fatalf("Encode(%v) = %d", i, e)
		}
		code = append(code, w)
	}
	return code
}

// checks tells whether Check returns that place and that error.
func checks(t *testing.T, code []uint32, entries []int, stack, at int, e api.Errno) {
	t.Helper()
	if gotAt, got := verify.Check(code, entries, stack); gotAt != at || got != e {
		text, _ := isa.List(code)
		t.Errorf("Check(%q, %v, %d) = %d, %d, want %d, %d", text, entries, stack, gotAt, got, at, e)
	}
}

// slow is what the chapter says of code, word by word.
type slow struct {
	list    []isa.Instr
	entries []int
	stack   int
}

// set is a set of places.
type set map[int]bool

// slowCheck is Check; it also returns the number of the condition that holds, or 0.
func slowCheck(code []uint32, entries []int, stack int) (at int, e api.Errno, number int) {
	if len(entries) == 0 || stack < 0 || stack > 4096 {
		return -1, api.ErrArg, 1
	}
	if len(code) > 4096 || slices.Min(entries) < 0 || slices.Max(entries) >= len(code) {
		return -1, api.ErrRange, 1
	}
	s := slow{entries: entries, stack: stack}
	for at, w := range code {
		i, e := isa.Decode(w)
		if e != api.OK {
			return at, api.ErrCode, 2
		}
		s.list = append(s.list, i)
	}
	for n, c := range []struct {
		e     api.Errno
		holds func() set
	}{
		{api.ErrRange, s.condition3}, {api.ErrLoop, s.condition4}, {api.ErrDeep, s.condition5}, {api.ErrDeep, s.condition6},
		{api.ErrStack, s.condition7}, {api.ErrDeep, s.condition8}, {api.ErrStack, s.condition9},
	} {
		if at := least(c.holds()); at >= 0 {
			return at, c.e, n + 3
		}
	}
	return -1, api.OK, 0
}

func least(places set) int {
	at := -1
	for p, in := range places {
		if in && (at < 0 || p < at) {
			at = p
		}
	}
	return at
}

func (s slow) is(p int, ops ...int) bool { return slices.Contains(ops, s.list[p].Op) }

func (s slow) isEnd(p int) bool { return s.is(p, isa.Ret) || s.is(p, isa.Trap) && s.list[p].N == 3 }

func (s slow) end(loop int) int { return loop + 1 + 16*s.list[loop].A + s.list[loop].B }

func (s slow) next(p int) []int {
	switch {
	case s.is(p, isa.Jump):
		return []int{p + 1 + s.list[p].N}
	case s.is(p, isa.Jz, isa.Jnz):
		return []int{p + 1, p + 1 + s.list[p].N}
	case s.isEnd(p):
		return nil
	}
	return []int{p + 1}
}

// bodies returns the loops whose bodies contain p.
func (s slow) bodies(p int) set {
	found := set{}
	for loop := range s.list {
		if s.is(loop, isa.Loop) && loop+1 <= p && p <= s.end(loop)-1 {
			found[loop] = true
		}
	}
	return found
}

func same(a, b set) bool {
	for p := range a {
		if !b[p] {
			return false
		}
	}
	return len(a) == len(b)
}

func (s slow) condition3() set {
	found := set{}
	has := func(p int) bool { return p >= 0 && p < len(s.list) }
	for p, i := range s.list {
		switch i.Op {
		case isa.Jump, isa.Jz, isa.Jnz:
			found[p] = !has(p + 1 + i.N)
		case isa.Call:
			found[p] = !has(i.N)
		case isa.Loop:
			found[p] = !has(s.end(p))
		}
	}
	last := len(s.list) - 1
	if !s.is(last, isa.Jump) && !s.isEnd(last) {
		found[last] = true
	}
	return found
}

func (s slow) condition4() set {
	found := set{}
	for p, i := range s.list {
		bodies := s.bodies(p)
		switch {
		case s.is(p, isa.Jump, isa.Jz, isa.Jnz):
			found[p] = i.N < 0 || !s.mayJump(p, p+1+i.N)
		case s.is(p, isa.Loop):
			for outer := range bodies {
				found[p] = found[p] || s.end(p) > s.end(outer)
			}
		case s.is(p, isa.Call):
			found[p] = len(s.bodies(i.N)) > 0
		case s.isEnd(p):
			found[p] = len(bodies) > 0
		}
	}
	return found
}

func (s slow) mayJump(p, goal int) bool {
	bodies, there := s.bodies(p), s.bodies(goal)
	if same(bodies, there) {
		return true
	}
	innermost, others := -1, set{}
	for loop := range bodies {
		innermost = max(innermost, loop)
		if s.end(loop) != goal {
			others[loop] = true
		}
	}
	return innermost >= 0 && s.end(innermost) == goal && same(others, there)
}

func (s slow) condition5() set {
	found := set{}
	for p := range s.list {
		found[p] = len(s.bodies(p)) > 8
	}
	return found
}

// places returns the places of the function that begins somewhere.
func (s slow) places(from int) set {
	found := set{}
	var visit func(p int)
	visit = func(p int) {
		if !found[p] {
			found[p] = true
			for _, next := range s.next(p) {
				visit(next)
			}
		}
	}
	visit(from)
	return found
}

// functions returns the beginnings of the functions that begin at some places, and of those that they call, directly or not.
func (s slow) functions(from ...int) set {
	found := set{}
	var visit func(begin int)
	visit = func(begin int) {
		if !found[begin] {
			found[begin] = true
			for p := range s.places(begin) {
				if s.is(p, isa.Call) {
					visit(s.list[p].N)
				}
			}
		}
	}
	for _, begin := range from {
		visit(begin)
	}
	return found
}

func (s slow) condition6() set {
	found := set{}
	for function := range s.functions(s.entries...) {
		for p := range s.places(function) {
			if !s.is(p, isa.Call) {
				continue
			}
			for called := range s.functions(s.list[p].N) {
				if s.places(called)[p] {
					found[p] = true
				}
			}
		}
	}
	return found
}

// heights returns all heights of each place of a function.
func (s slow) heights(from int) map[int]set {
	found := map[int]set{}
	var visit func(p, height int)
	visit = func(p, height int) {
		if found[p][height] {
			return
		}
		if found[p] == nil {
			found[p] = set{}
		}
		found[p][height] = true
		switch {
		case s.is(p, isa.Push):
			height++
		case s.is(p, isa.Pop):
			height--
		}
		for _, next := range s.next(p) {
			visit(next, height)
		}
	}
	visit(from, 0)
	return found
}

func (s slow) condition7() set {
	found := set{}
	for function := range s.functions(s.entries...) {
		all := s.heights(function)
		for p, heights := range all {
			if len(heights) > 1 || s.is(p, isa.Pop) && heights[0] {
				found[p] = true
			}
			if s.is(p, isa.Ret) && (slices.Contains(s.entries, function) || !same(heights, set{0: true})) {
				found[p] = true
			}
			if s.is(p, isa.Loop) && !same(heights, all[s.end(p)]) {
				found[p] = true
			}
		}
	}
	return found
}

// chains visits each call at the end of each sequence of calls from an entry: the sum is that of add for all calls but this one.
func (s slow) chains(add func(function, call int) int, visit func(function, sum int)) {
	var follow func(function, sum int)
	follow = func(function, sum int) {
		visit(function, sum)
		for p := range s.places(function) {
			if s.is(p, isa.Call) {
				follow(s.list[p].N, sum+add(function, p))
			}
		}
	}
	for _, entry := range s.entries {
		follow(entry, 0)
	}
}

func (s slow) condition8() set {
	found := set{}
	bodies := func(_, p int) int { return len(s.bodies(p)) }
	s.chains(bodies, func(function, sum int) {
		for p := range s.places(function) {
			if !s.is(p, isa.Call) {
				continue
			}
			most := 0
			for q := range s.places(s.list[p].N) {
				most = max(most, len(s.bodies(q)))
			}
			if sum+len(s.bodies(p))+most > 8 {
				found[p] = true
			}
		}
	})
	return found
}

func (s slow) condition9() set {
	found := set{}
	height := func(function, p int) int { return least(s.heights(function)[p]) }
	s.chains(func(function, p int) int { return height(function, p) + 1 }, func(function, sum int) {
		for p := range s.places(function) {
			if s.is(p, isa.Push, isa.Call) && sum+height(function, p)+1 > s.stack {
				found[p] = true
			}
		}
	})
	return found
}

// slowReach is what the chapter says of Reach of code that Check accepts.
func slowReach(code []uint32, entry int) (l []int) {
	s := slow{}
	for _, w := range code {
		i, _ := isa.Decode(w)
		s.list = append(s.list, i)
	}
	found := set{}
	for function := range s.functions(entry) {
		for p := range s.places(function) {
			found[p] = true
		}
	}
	for p := range s.list {
		if found[p] {
			l = append(l, p)
		}
	}
	return l
}
