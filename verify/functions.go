package verify

import (
	"slices"

	"monocoque/isa"
)

// heights are the least and the greatest height of a place.
type heights struct{ least, most int }

// follow returns the places that follow a place: the next ones, and the beginning of a called function.
func (p program) follow(at int) []int {
	if callee, ok := p.callee(at); ok {
		return append(slices.Clone(p.next[at]), callee)
	}
	return p.next[at]
}

// reach tells of each place whether it is one of some places or follows one.
func (p program) reach(from ...int) []bool {
	reached := make([]bool, len(p.list))
	todo := slices.Clone(from)
	for len(todo) > 0 {
		at := todo[len(todo)-1]
		todo = todo[:len(todo)-1]
		if !reached[at] {
			reached[at] = true
			todo = append(todo, p.follow(at)...)
		}
	}
	return reached
}

// functions returns the places at which the reachable functions begin, and whether these are entries.
func (p program) functions() map[int]bool {
	found := map[int]bool{}
	for at, reached := range p.reach(p.entries...) {
		if callee, ok := p.callee(at); ok && reached {
			found[callee] = false
		}
	}
	for _, entry := range p.entries {
		found[entry] = true
	}
	return found
}

// recursive: a call leads back to the function in which it is.
func recursive(p program) func(at int) bool {
	reached := p.reach(p.entries...)
	return func(at int) bool {
		callee, ok := p.callee(at)
		return ok && reached[at] && p.reach(callee)[at]
	}
}

// unbalanced: a place has several heights, or a function pops what it has not pushed, returns what is not its own to return,
// or has another height after a loop than ahead of it.
func unbalanced(p program) func(at int) bool {
	broken := map[int]bool{}
	for from, isEntry := range p.functions() {
		found := p.heights(from)
		for at, h := range found {
			if h.least != h.most || p.isBroken(at, found) || isEntry && p.list[at].Op == isa.Ret {
				broken[at] = true
			}
		}
	}
	return func(at int) bool { return broken[at] }
}

// heights returns those of the places of the function that begins at a place.
func (p program) heights(from int) map[int]heights {
	found := map[int]heights{from: {}}
	// No next place lies ahead of its place, so all ways to a place are known when it is its turn.
	for at := from; at < len(p.list); at++ {
		h, ok := found[at]
		if !ok {
			continue
		}
		by := p.pushed(at)
		after := heights{h.least + by, h.most + by}
		for _, next := range p.next[at] {
			found[next] = after.and(found, next)
		}
	}
	return found
}

// and returns the heights of both h and those already found for a place.
func (h heights) and(found map[int]heights, at int) heights {
	o, ok := found[at]
	if !ok {
		return h
	}
	return heights{min(h.least, o.least), max(h.most, o.most)}
}

// pushed returns by how much the instruction at a place changes the height.
func (p program) pushed(at int) int {
	switch p.list[at].Op {
	case isa.Push:
		return 1
	case isa.Pop:
		return -1
	}
	return 0
}

// isBroken reports whether the height of a place is not that which its instruction asks for.
func (p program) isBroken(at int, found map[int]heights) bool {
	switch p.list[at].Op {
	case isa.Pop:
		return found[at].least == 0
	case isa.Ret:
		return found[at] != heights{}
	case isa.Loop:
		h, ok := found[p.endOf(at)]
		return !ok || h != found[at]
	}
	return false
}
