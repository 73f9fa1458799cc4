package worst

import "monocoque/isa"

const (
	noGoal = -1
	done   = 3 // the kernel call that ends a release
)

// path is what lies between two places.
type path struct{ from, goal int }

// rule returns the maximum from an instruction on, by that of the body or function which it executes, and by that of what comes after it.
type rule func(i isa.Instr, inside, after int) int

// walk finds the maxima of paths by a rule. Code of which a path is part of many others would take forever without what is known.
type walk struct {
	list  []isa.Instr
	rule  rule
	known map[path]int
}

func newWalk(list []isa.Instr, r rule) walk {
	return walk{list: list, rule: r, known: map[path]int{}}
}

// most returns the maximum from a place to a goal. No path of accepted code is part of itself.
func (w walk) most(from, goal int) int {
	if from == goal {
		return 0
	}
	p := path{from, goal}
	n, ok := w.known[p]
	if !ok {
		n = w.rule(w.list[from], w.inside(from), w.after(p))
		w.known[p] = n
	}
	return n
}

// inside returns the maximum of the body or function that the instruction at a place executes.
func (w walk) inside(at int) int {
	switch i := w.list[at]; i.Op {
	case isa.Loop:
		return w.most(at+1, end(i, at))
	case isa.Call:
		return w.most(i.N, noGoal)
	}
	return 0
}

// after returns the maximum of what comes after the first instruction of a path.
func (w walk) after(p path) int {
	i, next := w.list[p.from], p.from+1
	switch i.Op {
	case isa.Jump:
		return w.most(next+i.N, p.goal)
	case isa.Jz, isa.Jnz:
		return max(w.most(next, p.goal), w.most(next+i.N, p.goal))
	case isa.Loop:
		return w.most(end(i, p.from), p.goal)
	case isa.Ret:
		return 0
	case isa.Trap:
		if i.N == done {
			return 0
		}
	}
	return w.most(next, p.goal)
}

// end returns the place after the body of a loop.
func end(i isa.Instr, at int) int { return at + 1 + 16*i.A + i.B }
