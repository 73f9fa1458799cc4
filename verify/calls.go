package verify

import (
	"slices"

	"monocoque/isa"
)

// order returns the places that can be reached from the entries, each one ahead of those that follow it.
// No call leads back here, so there is such an order.
func (p program) order() []int {
	var order []int
	seen := make([]bool, len(p.list))
	var visit func(at int)
	visit = func(at int) {
		if seen[at] {
			return
		}
		seen[at] = true
		for _, to := range p.follow(at) {
			visit(to)
		}
		order = append(order, at)
	}
	for _, entry := range p.entries {
		visit(entry)
	}
	slices.Reverse(order)
	return order
}

// greatest returns, for each place that can be reached, the greatest sum on a way from an entry to it:
// step and call tell what is added from a place to its next ones, and from a call to the called function.
func (p program) greatest(step, call func(at int) int) map[int]int {
	sums := map[int]int{}
	for _, at := range p.order() {
		sum := sums[at] // no sum is negative
		for _, to := range p.next[at] {
			sums[to] = max(sums[to], sum+step(at))
		}
		if callee, ok := p.callee(at); ok {
			sums[callee] = max(sums[callee], sum+call(at))
		}
		sums[at] = sum
	}
	return sums
}

// deepCalls: after a call more loops may be active than can be.
func deepCalls(p program) func(at int) bool {
	depth := func(at int) int { return len(p.bodies[at]) }
	active := p.greatest(func(int) int { return 0 }, depth)
	deepest := p.deepest()
	return func(at int) bool {
		sum, ok := active[at]
		callee, isCall := p.callee(at)
		return ok && isCall && sum+depth(at)+deepest[callee] > mostDepth
	}
}

// deepest returns, for each place, the greatest number of bodies that contain a place of a function that begins there.
func (p program) deepest() []int {
	deepest := make([]int, len(p.list))
	for at := range slices.Backward(p.list) {
		deepest[at] = len(p.bodies[at])
		for _, next := range p.next[at] {
			deepest[at] = max(deepest[at], deepest[next])
		}
	}
	return deepest
}

// overflowing: a push or a call finds no room on the stack.
func overflowing(p program) func(at int) bool {
	words := p.greatest(p.pushed, func(int) int { return 1 })
	return func(at int) bool {
		n, ok := words[at]
		op := p.list[at].Op
		return ok && (op == isa.Push || op == isa.Call) && n+1 > p.stack
	}
}
