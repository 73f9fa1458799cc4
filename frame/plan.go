package frame

import (
	"slices"

	"monocoque/api"
)

const mostTables = 8 // of a plan

// Turn is a tick that has passed: its number, the mode, who had it, and how many ticks were left, as At tells
// that; whether it was the first or the last one of a window, and whether it was the first one of a frame.
type Turn struct {
	Tick, Mode, Who, Left int
	Begins, Ends, Frame   bool
}

// Plan is tables, one of which is in effect, and the next tick.
type Plan struct {
	tables []Table
	mode   int // the number of the table in effect
	next   int // that of the next frame, which is wanted if it is another one
	now    int // the next tick
	tick   int // the same tick, in its frame
}

// NewPlan returns a plan at tick 0, in which the table of this number is in effect.
func NewPlan(l []Table, mode int) (*Plan, api.Errno) {
	if len(l) < 1 || len(l) > mostTables {
		return nil, api.ErrArg
	}
	for _, t := range l {
		if e := t.Check(); e != api.OK {
			return nil, e
		}
	}
	p := &Plan{tables: cloneTables(l), mode: mode, next: mode}
	if !p.has(mode) {
		return nil, api.ErrMode
	}
	return p, api.OK
}

func cloneTables(l []Table) []Table {
	var c []Table
	for _, t := range l {
		c = append(c, t.clone())
	}
	return c
}

// has reports whether mode is the number of a table.
func (p *Plan) has(mode int) bool { return mode >= 0 && mode < len(p.tables) }

// Request makes a mode wanted from the next frame on; the one in effect is not wanted, it stays.
func (p *Plan) Request(mode int) api.Errno {
	if p == nil {
		return api.ErrArg
	}
	if !p.has(mode) {
		return api.ErrMode
	}
	p.next = mode
	return api.OK
}

// Tick lets the next tick pass.
func (p *Plan) Tick() Turn {
	if p == nil || !p.has(p.mode) {
		return Turn{}
	}
	t := p.tables[p.mode]
	w := t.around(p.tick)
	turn := Turn{Tick: p.now, Mode: p.mode, Who: w.Who, Left: w.end() - p.tick, Frame: p.tick == 0}
	if w.Who != nobody {
		turn.Begins, turn.Ends = p.tick == w.From, turn.Left == 1
	}
	p.now++
	p.tick++
	if p.tick == t.Frame {
		p.tick, p.mode = 0, p.next
	}
	return turn
}

// Mode returns the mode in effect.
func (p *Plan) Mode() int {
	if p == nil {
		return 0
	}
	return p.mode
}

// Wanted returns the wanted mode and true, or 0 and false.
func (p *Plan) Wanted() (int, bool) {
	if p == nil || p.next == p.mode {
		return 0, false
	}
	return p.next, true
}

// Now returns the next tick.
func (p *Plan) Now() int {
	if p == nil {
		return 0
	}
	return p.now
}

// Clone returns an independent plan that is equal.
func (p *Plan) Clone() *Plan {
	if p == nil {
		return nil
	}
	c := *p
	c.tables = cloneTables(p.tables)
	return &c
}

// Same reports whether both have the same tables, modes and ticks.
func (p *Plan) Same(o *Plan) bool {
	if p == nil || o == nil {
		return p == o
	}
	return p.mode == o.mode && p.next == o.next && p.now == o.now && p.tick == o.tick &&
		slices.EqualFunc(p.tables, o.tables, Table.same)
}
