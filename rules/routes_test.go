package rules_test

import (
	"testing"

	"monocoque/book"
	"monocoque/rules"
)

// end returns an end.
func end(partition, port int) book.End { return book.End{Partition: partition, Port: port} }

// out is the end outside.
var out = end(outside, 0)

// from returns a channel.
func from(e book.End, to ...book.End) book.Channel { return book.Channel{From: e, To: to} }

// channels changes a module such that it has these channels, and a link for each that has an end outside.
func channels(l ...book.Channel) func(m *book.Module) {
	return func(m *book.Module) {
		m.Channels, m.Links = l, nil
		for i, c := range l {
			has := c.From.Partition == outside
			for _, e := range c.To {
				has = has || e.Partition == outside
			}
			if has {
				m.Links = append(m.Links, book.Link{Name: "l" + string(rune('a'+i)), Channel: i})
			}
		}
	}
}

// Rule 9: where messages come from.
func TestSources(t *testing.T) {
	to := end(1, 0)
	broken := []rules.Fault{fault(9, 0)}
	steps(t, []step{
		{"an out port", channels(from(end(0, 0), to)), nil},
		{"outside", channels(from(out, to)), nil},
		{"an in port", channels(from(end(0, 3), to)), broken},
		{"a port too far", channels(from(end(1, 3), to)), broken},
		{"a port of a partition without ports", channels(from(end(2, 0), to)), broken},
		{"a partition too far", channels(from(end(3, 0), to)), broken},
		{"the last partition that may be", channels(from(end(15, 15), to)), broken},
		{"outside with another port", channels(from(end(outside, 1), to)), broken},
		{"no goals", channels(from(end(0, 0))), broken},
		{"outside without goals", channels(from(out)), broken},
		{"an in port without goals", channels(from(end(0, 3))), broken},
		{"several", channels(from(end(0, 0), to), from(end(0, 1)), from(end(9, 9), end(1, 1))), []rules.Fault{fault(9, 1), fault(9, 2)}},
	})
}

// Rule 9: where messages go.
func TestGoals(t *testing.T) {
	source := end(0, 0)
	broken := []rules.Fault{fault(9, 0, 0)}
	steps(t, []step{
		{"an in port", channels(from(source, end(0, 3))), nil},
		{"outside", channels(from(source, out)), nil},
		{"outside and in ports", channels(from(source, end(0, 3), out, end(1, 0))), nil},
		{"an out port", channels(from(source, end(1, 2))), broken},
		{"a port too far", channels(from(source, end(1, 3))), broken},
		{"a port of a partition without ports", channels(from(source, end(2, 0))), broken},
		{"a partition too far", channels(from(source, end(3, 0))), broken},
		{"outside with another port", channels(from(source, end(outside, 15))), broken},
		{"outside twice", channels(from(source, out, out)), []rules.Fault{fault(9, 0, 1)}},
		{"outside twice, and again", channels(from(source, out, end(1, 0), out, out)), []rules.Fault{fault(9, 0, 2), fault(9, 0, 3)}},
		{"from outside to outside", channels(from(out, out)), broken},
		{"from outside to outside, behind a port", channels(from(out, end(1, 0), out)), []rules.Fault{fault(9, 0, 1)}},
		{"outside with another port, and outside", channels(from(source, end(outside, 1), out)), []rules.Fault{fault(9, 0, 0), fault(9, 0, 1)}},
		{"from outside with another port to outside", channels(from(end(outside, 1), out)), []rules.Fault{fault(9, 0), fault(9, 0, 0)}},
		{"outside in two channels", channels(from(source, out), from(end(1, 2), out)), nil},
		{"a channel's first, then its goals'", channels(from(end(1, 0), end(1, 2), end(9, 9)), from(end(5, 0), end(0, 3), end(0, 1))), []rules.Fault{
			fault(9, 0), fault(9, 0, 0), fault(9, 0, 1), fault(9, 1), fault(9, 1, 1), fault(11, 1),
		}},
	})
}

// Rule 10: ports that occur twice.
func TestOnce(t *testing.T) {
	steps(t, []step{
		{"two goals", channels(from(end(0, 0), end(1, 0), end(1, 0))), []rules.Fault{fault(10, 0, 1)}},
		{"goals of two channels", channels(from(end(0, 0), end(1, 0)), from(end(1, 2), end(1, 0))), []rules.Fault{fault(10, 1, 0)}},
		{"two sources", channels(from(end(0, 0), end(1, 0)), from(end(0, 0), end(0, 3))), []rules.Fault{fault(10, 1)}},
		{"a source and its goal", channels(from(end(0, 0), end(0, 0))), []rules.Fault{fault(9, 0, 0), fault(10, 0, 0)}},
		{"a goal and a later source", channels(from(end(0, 0), end(1, 0)), from(end(1, 0), end(0, 3))), []rules.Fault{fault(9, 1), fault(10, 1)}},
		{"three times", channels(from(end(0, 0), end(1, 0), end(1, 0), end(0, 3), end(1, 0)), from(out, end(0, 3))), []rules.Fault{fault(10, 0, 1), fault(10, 0, 3), fault(10, 1, 0)}},
		{"the same numbers in other partitions", channels(from(end(0, 0), end(1, 0)), from(end(0, 1), end(1, 1))), nil},
		{"outside, in many channels", channels(from(out, end(1, 0)), from(out, end(1, 1)), from(out, end(0, 3)), from(end(0, 0), out)), nil},
		{"ends that are no ports", channels(from(end(0, 9), end(1, 9), end(1, 9)), from(end(0, 9), end(7, 0), end(7, 0))), []rules.Fault{
			fault(9, 0), fault(9, 0, 0), fault(9, 0, 1), fault(9, 1), fault(9, 1, 0), fault(9, 1, 1),
		}},
		{"ends outside with other ports", channels(from(end(outside, 1), end(1, 0)), from(end(outside, 1), end(0, 3))), []rules.Fault{fault(9, 0), fault(9, 1)}},
	})
}

// Rule 11: the ports of a channel, of which these are queuing: 0.1, 0.2, 0.5 and 1.1.
func TestAlike(t *testing.T) {
	steps(t, []step{
		{"queuing to sampling", channels(from(end(0, 1), end(1, 0))), []rules.Fault{fault(11, 0, 0)}},
		{"sampling to queuing", channels(from(end(0, 0), end(1, 1))), []rules.Fault{fault(11, 0, 0)}},
		{"queuing of other words", channels(from(end(0, 1), end(0, 2))), []rules.Fault{fault(11, 0, 0)}},
		{"sampling of other words", channels(from(end(0, 0), end(0, 4))), []rules.Fault{fault(11, 0, 0)}},
		{"room and refresh may be others", channels(from(end(0, 0), end(1, 0)), from(end(0, 1), end(1, 1))), nil},
		{"some of the goals", channels(from(end(0, 0), end(1, 0), end(0, 4), end(0, 3))), []rules.Fault{fault(11, 0, 1)}},
		{"from outside, the first goal is what others are held against", channels(from(out, end(0, 4), end(1, 0), end(0, 3))), []rules.Fault{fault(11, 0, 1), fault(11, 0, 2)}},
		{"from outside to a queuing port", channels(from(out, end(0, 2))), nil},
		{"queuing to outside", channels(from(end(0, 1), out)), nil},
		{"queuing to a port and outside", channels(from(end(0, 1), end(1, 1), out)), []rules.Fault{fault(11, 0)}},
		{"queuing to two ports", channels(from(end(0, 1), end(1, 1), end(0, 2))), []rules.Fault{fault(11, 0), fault(11, 0, 1)}},
		{"sampling to outside and to ports", channels(from(end(0, 0), out, end(1, 0), end(0, 4))), []rules.Fault{fault(11, 0, 2)}},
		{"one of two goals is queuing", channels(from(end(0, 0), end(1, 0), end(1, 1))), []rules.Fault{fault(11, 0), fault(11, 0, 1)}},
		{"from outside to two, one of which is queuing", channels(from(out, end(1, 0), end(0, 2))), []rules.Fault{fault(11, 0), fault(11, 0, 1)}},
		{"from outside to two, the first of which is queuing", channels(from(out, end(0, 2), end(1, 0))), []rules.Fault{fault(11, 0), fault(11, 0, 1)}},
		{"several channels", channels(from(end(0, 0), end(0, 4)), from(end(0, 1), end(1, 0), out)), []rules.Fault{fault(11, 0, 0), fault(11, 1), fault(11, 1, 0)}},
	})
}

// Rule 11: ends that are no ports are not held against others.
func TestAlikeWithoutPorts(t *testing.T) {
	steps(t, []step{
		{"a goal that is no port", channels(from(end(0, 0), end(9, 0), end(0, 4))), []rules.Fault{fault(9, 0, 0), fault(11, 0, 1)}},
		{"a source that is no port", channels(from(end(9, 0), end(1, 0), end(0, 4))), []rules.Fault{fault(9, 0)}},
		{"from outside, the first goal is no port", channels(from(out, end(9, 0), end(1, 0), end(0, 4))), []rules.Fault{fault(9, 0, 0)}},
		{"from outside to outside, and ports", channels(from(out, out, end(1, 0), end(0, 4))), []rules.Fault{fault(9, 0, 0)}},
		{"a queuing goal, and one that is no port", channels(from(end(9, 0), end(9, 1), end(0, 2))), []rules.Fault{fault(9, 0), fault(9, 0, 0), fault(11, 0)}},
		{"no goals", channels(from(end(0, 1))), []rules.Fault{fault(9, 0)}},
	})
}

// Rules 12 and 13: links and channels that have an end outside.
func TestLinks(t *testing.T) {
	steps(t, []step{
		{"no such channel", func(m *book.Module) { m.Links = append(m.Links, book.Link{Name: "x", Channel: 3}) }, []rules.Fault{fault(12, 2)}},
		{"the last channel that may be", func(m *book.Module) { m.Links = append(m.Links, book.Link{Name: "x", Channel: 31}) }, []rules.Fault{fault(12, 2)}},
		{"no end outside", func(m *book.Module) { m.Links = append(m.Links, book.Link{Name: "x", Channel: 1}) }, []rules.Fault{fault(12, 2)}},
		{"twice", func(m *book.Module) { m.Links = append(m.Links, book.Link{Name: "x", Channel: 2}) }, []rules.Fault{fault(12, 2)}},
		{"no such channel, twice", func(m *book.Module) {
			m.Links = append(m.Links, book.Link{Name: "x", Channel: 9}, book.Link{Name: "y", Channel: 9})
		}, []rules.Fault{fault(12, 2), fault(12, 3)}},
		{"one link lacks", func(m *book.Module) { m.Links = m.Links[:1] }, []rules.Fault{fault(13, 0)}},
		{"all links lack", func(m *book.Module) { m.Links = nil }, []rules.Fault{fault(13, 0), fault(13, 2)}},
		{"the wrong one", func(m *book.Module) { m.Links[0].Channel = 1 }, []rules.Fault{fault(12, 0), fault(13, 2)}},
		{"the same one", func(m *book.Module) { m.Links[0].Channel = 0 }, []rules.Fault{fault(12, 1), fault(13, 2)}},
		{"no channels", func(m *book.Module) { m.Channels = nil }, []rules.Fault{fault(12, 0), fault(12, 1)}},
		{"neither", func(m *book.Module) { m.Channels, m.Links = nil, nil }, nil},
		{"outside with another port is outside too", func(m *book.Module) {
			m.Channels[0].To[1].Port = 3
		}, []rules.Fault{fault(9, 0, 1)}},
		{"outside with another port, and no link", func(m *book.Module) {
			m.Channels[2].From.Port = 3
			m.Links = m.Links[1:]
		}, []rules.Fault{fault(9, 2), fault(13, 2)}},
		{"gaps", func(m *book.Module) { m.Links[0].Gap, m.Links[1].Gap = 0, 1<<20 }, nil},
	})
}
