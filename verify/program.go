package verify

import (
	"slices"

	"monocoque/api"
	"monocoque/isa"
)

// done is the kernel call with which a process declares that it is done.
const done = 3

// program is code, what is known of its places, and how it is entered.
type program struct {
	list    []isa.Instr
	next    [][]int // the next places of each place
	bodies  [][]int // the loops whose bodies contain a place, in order
	entries []int
	stack   int
}

// decode returns the program of some words, or the first place of which the word is not an instruction, and otherwise -1.
func decode(code []uint32) (p program, at int) {
	for at, w := range code {
		i, e := isa.Decode(w)
		if e != api.OK {
			return program{}, at
		}
		p.list = append(p.list, i)
	}
	p.bodies = make([][]int, len(p.list))
	for at := range p.list {
		p.next = append(p.next, p.nextOf(at))
		end, _ := p.end(at)
		for in := at + 1; in < min(end, len(p.list)); in++ {
			p.bodies[in] = append(p.bodies[in], at)
		}
	}
	return p, -1
}

func (p program) has(at int) bool { return at >= 0 && at < len(p.list) }

// first returns the first place with a property, or -1.
func (p program) first(is func(at int) bool) int {
	for at := range p.list {
		if is(at) {
			return at
		}
	}
	return -1
}

// goal returns the place to which the instruction at a place jumps; ok is false if it is no jump.
func (p program) goal(at int) (place int, ok bool) {
	switch i := p.list[at]; i.Op {
	case isa.Jump, isa.Jz, isa.Jnz:
		return at + 1 + i.N, true
	}
	return 0, false
}

// callee returns the place that the instruction at a place calls; ok is false if it is no call.
func (p program) callee(at int) (place int, ok bool) {
	if i := p.list[at]; i.Op == isa.Call {
		return i.N, true
	}
	return 0, false
}

// end returns the end of the loop at a place; ok is false if there is none.
func (p program) end(at int) (place int, ok bool) {
	if i := p.list[at]; i.Op == isa.Loop {
		return at + 1 + 16*i.A + i.B, true
	}
	return 0, false
}

// isLast reports whether nothing follows the instruction at a place: it is a ret, or declares that the process is done.
func (p program) isLast(at int) bool {
	i := p.list[at]
	return i.Op == isa.Ret || i.Op == isa.Trap && i.N == done
}

func (p program) nextOf(at int) []int {
	if p.isLast(at) {
		return nil
	}
	goal, jumps := p.goal(at)
	switch {
	case !jumps:
		return []int{at + 1}
	case p.list[at].Op == isa.Jump:
		return []int{goal}
	}
	return []int{at + 1, goal}
}

// leaving: what an instruction names is not a place of the code, or something would follow the last one.
func leaving(p program) func(at int) bool {
	named := []func(at int) (int, bool){p.goal, p.callee, p.end}
	return func(at int) bool {
		for _, place := range named {
			if place, ok := place(at); ok && !p.has(place) {
				return true
			}
		}
		return at == len(p.list)-1 && p.list[at].Op != isa.Jump && !p.isLast(at)
	}
}

// unordered: an instruction goes back, or into the body of a loop or out of it on another way than by its end.
func unordered(p program) func(at int) bool {
	return func(at int) bool {
		if goal, ok := p.goal(at); ok {
			return goal <= at || !p.mayJump(at, goal)
		}
		if callee, ok := p.callee(at); ok {
			return len(p.bodies[callee]) > 0
		}
		if end, ok := p.end(at); ok {
			return slices.ContainsFunc(p.bodies[at], func(outer int) bool { return p.endOf(outer) < end })
		}
		return p.isLast(at) && len(p.bodies[at]) > 0
	}
}

// endOf returns the end of what is known to be a loop.
func (p program) endOf(loop int) int {
	end, _ := p.end(loop)
	return end
}

// mayJump reports whether a jump from a place to another one stays in all bodies, or goes to the end of the innermost one.
// Bodies are within each other here: if not, the jump lies behind a loop that ends too late.
func (p program) mayJump(from, to int) bool {
	bodies := p.bodies[from]
	if slices.Equal(bodies, p.bodies[to]) {
		return true
	}
	if len(bodies) == 0 || p.endOf(bodies[len(bodies)-1]) != to {
		return false
	}
	ended := func(loop int) bool { return p.endOf(loop) == to }
	return slices.Equal(slices.DeleteFunc(slices.Clone(bodies), ended), p.bodies[to])
}

// deep: too many bodies contain a place.
func deep(p program) func(at int) bool {
	return func(at int) bool { return len(p.bodies[at]) > mostDepth }
}
