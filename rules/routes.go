package rules

import (
	"slices"

	"monocoque/book"
)

// port returns the port that an end is, if there is such a port.
func port(m book.Module, e book.End) (book.Port, bool) {
	if e.Partition < 0 || e.Partition >= len(m.Partitions) {
		return book.Port{}, false
	}
	list := m.Partitions[e.Partition].Ports
	if e.Port < 0 || e.Port >= len(list) {
		return book.Port{}, false
	}
	return list[e.Port], true
}

func outside(e book.End) bool { return e.Partition == book.Outside }

// serves reports whether messages can come from an end (out), or go there: through such a port, or outside.
func serves(m book.Module, e book.End, out bool) bool {
	if outside(e) {
		return e == book.End{Partition: book.Outside}
	}
	p, ok := port(m, e)
	return ok && p.Out == out
}

func ends(m book.Module, broken tell) {
	for i, c := range m.Channels {
		if !serves(m, c.From, true) || len(c.To) == 0 {
			broken(i)
		}
		was := outside(c.From)
		for j, e := range c.To {
			if !serves(m, e, false) || outside(e) && was {
				broken(i, j)
			}
			was = was || outside(e)
		}
	}
}

func once(m book.Module, broken tell) {
	seen := map[book.End]bool{}
	again := func(e book.End) bool {
		if _, ok := port(m, e); !ok {
			return false
		}
		was := seen[e]
		seen[e] = true
		return was
	}
	for i, c := range m.Channels {
		if again(c.From) {
			broken(i)
		}
		for j, e := range c.To {
			if again(e) {
				broken(i, j)
			}
		}
	}
}

// firstPort returns the port that the others of a channel must be like, if there is such a port.
func firstPort(m book.Module, c book.Channel) (book.Port, bool) {
	if outside(c.From) && len(c.To) > 0 {
		return port(m, c.To[0])
	}
	return port(m, c.From)
}

func alike(m book.Module, broken tell) {
	queuing := func(e book.End) bool {
		p, _ := port(m, e)
		return p.Queue
	}
channels:
	for i, c := range m.Channels {
		if len(c.To) > 1 && (queuing(c.From) || slices.ContainsFunc(c.To, queuing)) {
			broken(i)
		}
		first, ok := firstPort(m, c)
		if !ok {
			continue channels
		}
		for j, e := range c.To {
			if p, ok := port(m, e); ok && (p.Queue != first.Queue || p.Words != first.Words) {
				broken(i, j)
			}
		}
	}
}

// leaves reports whether a channel has an end outside.
func leaves(c book.Channel) bool {
	return outside(c.From) || slices.ContainsFunc(c.To, outside)
}

func links(m book.Module, broken tell) {
	seen := map[int]bool{}
	for i, l := range m.Links {
		if l.Channel >= len(m.Channels) || !leaves(m.Channels[l.Channel]) || seen[l.Channel] {
			broken(i)
		}
		seen[l.Channel] = true
	}
}

func linked(m book.Module, broken tell) {
	for i, c := range m.Channels {
		has := func(l book.Link) bool { return l.Channel == i }
		if leaves(c) && !slices.ContainsFunc(m.Links, has) {
			broken(i)
		}
	}
}
