package meet

import (
	"slices"
	"sort"

	"monocoque/frame"
	"monocoque/supply"
)

// pace is supply.Need of a partition. It keeps what it has found, since the search for a response may ask for
// nearly as many needs as its bound has ticks.
type pace struct {
	table frame.Table
	who   int
	total int   // the ticks of the partition in a frame
	runs  []run // of the work of one frame, in increasing order
}

// run is a run of needs each of which is one tick more than the one before it: that of work+k is need+k, for each k
// less than length.
type run struct{ work, need, length int }

func newPace(t frame.Table, who int) *pace {
	return &pace{table: t, who: who, total: t.Total(who)}
}

// need returns supply.Need of a work of 1 to 2^20, for a partition that has ticks.
func (p *pace) need(work int) int {
	// Each whole frame adds just the total.
	frames := (work - 1) / p.total
	rest := work - frames*p.total
	r := p.around(rest)
	return frames*p.table.Frame + r.need + (rest - r.work)
}

// around returns a run with the need of a work that is not greater than the total.
func (p *pace) around(work int) run {
	i := sort.Search(len(p.runs), func(i int) bool { return p.runs[i].work > work })
	if i > 0 && work-p.runs[i-1].work < p.runs[i-1].length {
		return p.runs[i-1]
	}
	r := p.from(work)
	p.runs = slices.Insert(p.runs, i, r)
	return r
}

// from returns the run from that work on, up to the total.
func (p *pace) from(work int) run {
	need, _ := supply.Need(p.table, p.who, work)
	length := sort.Search(p.total-work+1, func(k int) bool {
		return supply.Least(p.table, p.who, need+k) < work+k
	})
	return run{work: work, need: need, length: length}
}
