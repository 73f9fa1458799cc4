package book_test

import (
	"reflect"
	"slices"
	"strings"
	"testing"

	"monocoque/book"
)

// namer is what partitions and modules have in common.
type namer interface {
	Names(kind string) []string
	Find(kind, name string) int
}

// listsOf are the names of the lists of a thing by the kinds of its things.
func listsOf(x namer) map[string]string {
	if _, ok := x.(book.Module); ok {
		return map[string]string{"partition": "Partitions", "schedule": "Schedules", "link": "Links"}
	}
	return map[string]string{"area": "Areas", "task": "Tasks", "lock": "Locks", "sema": "Semas", "event": "Events", "board": "Boards", "buffer": "Buffers", "port": "Ports"}
}

// with returns x with things of these names, and of no other kind.
func with(x namer, list string, names []string) namer {
	v := reflect.New(reflect.TypeOf(x)).Elem()
	l := reflect.MakeSlice(v.FieldByName(list).Type(), len(names), len(names))
	for i, s := range names {
		l.Index(i).FieldByName("Name").SetString(s)
	}
	v.FieldByName(list).Set(l)
	return v.Interface().(namer)
}

// answers tells whether x has things of a kind with these names, and no others.
func answers(t *testing.T, x namer, kind string, names ...string) {
	t.Helper()
	if got := x.Names(kind); !slices.Equal(got, names) {
		t.Errorf("Names(%q) = %q, want %q", kind, got, names)
	}
	for _, s := range append([]string{"", "nobody", "a", "A", "a ", "\x00"}, names...) {
		if at := x.Find(kind, s); at != slices.Index(names, s) {
			t.Errorf("Find(%q, %q) among %q = %d", kind, s, names, at)
		}
	}
}

// P6.3: things of one kind, in any order, with names that occur several times and with what is no name.
func TestNamesByKinds(t *testing.T) {
	many := strings.Split("q w e r t y u i o p a s d f g h j k l z x c v b n m", " ")
	for _, x := range []namer{book.Partition{}, book.Module{}} {
		kinds := listsOf(x)
		for kind, list := range kinds {
			for _, names := range [][]string{
				nil, {"a"}, {"b"}, {"a", "b"}, {"b", "a"}, {"b", "a", "a", "b"}, {"x", "y", "x"}, {"", "a", ""}, {"A", "a b", "\x00", "a "}, many,
			} {
				y := with(x, list, names)
				answers(t, y, kind, names...)
				for other := range kinds {
					if other != kind {
						answers(t, y, other)
					}
				}
			}
		}
	}
}

// P6.3: each kind has its own names.
func TestNames(t *testing.T) {
	p := part("p")
	answers(t, p, "area", "code", "data")
	answers(t, p, "task", "fast", "slow")
	answers(t, p, "lock", "l1", "l2")
	answers(t, p, "sema", "s1", "s2")
	answers(t, p, "event", "e1", "e2")
	answers(t, p, "board", "b1", "b2")
	answers(t, p, "buffer", "f1", "f2")
	answers(t, p, "port", "p1", "p2")
	m := full()
	answers(t, m, "partition", "left", "right_2")
	answers(t, m, "schedule", "cruise", "land")
	answers(t, m, "link", "up", "down")
	if p.Find("task", "slow") != 1 || p.Find("task", "fast") != 0 || p.Find("area", "slow") != -1 || m.Find("link", "down") != 1 {
		t.Error("Find")
	}
}

// P6.3: any other kind has no things, those of the other function among them.
func TestNamesOfOtherKinds(t *testing.T) {
	neither := []string{"", "rule", "health", "window", "channel", "to", "end", "budget", "module", "restarts", "Area", "areas", "area ", " area", "are", "areaa", "PORT", "Partition", "partitions", "a", "\x00"}
	for _, kind := range neither {
		answers(t, part("p"), kind)
		answers(t, full(), kind)
	}
	for kind := range listsOf(book.Module{}) {
		answers(t, part("p"), kind)
	}
	for kind := range listsOf(book.Partition{}) {
		answers(t, full(), kind)
	}
}

// P6.4: the names are no part of what they were taken from, and nothing is retained of them.
func TestNamesAreTheirOwn(t *testing.T) {
	m := full()
	for _, x := range []namer{m, m.Partitions[0]} {
		for kind := range listsOf(x) {
			l := x.Names(kind)
			want := slices.Clone(l)
			l = l[:cap(l)]
			for i := range l {
				l[i] = "spoilt"
			}
			answers(t, x, kind, want...)
		}
	}
	if !reflect.DeepEqual(m, full()) {
		t.Error("changed:", m)
	}
}

// beyond shows each element of the spare room of the lists of m to f, with the first element of its list.
func beyond(m *book.Module, f func(path string, first, v reflect.Value)) {
	lists(m, func(path string, v reflect.Value) {
		whole := v.Slice(0, v.Cap())
		for i := v.Len(); i < v.Cap(); i++ {
			f(path, v.Index(0), whole.Index(i))
		}
	})
}

// P6.4: no function changes what it is given, what lies in the spare room of its lists included.
func TestArgumentsStay(t *testing.T) {
	m, other := deep(full(), 3), deep(full(), 2)
	beyond(&m, func(_ string, first, v reflect.Value) { v.Set(first) })
	m.Right()
	m.Clone()
	m.Size()
	book.Same(m, other)
	book.Same(other, m)
	for _, x := range []namer{m, m.Partitions[0], m.Partitions[1]} {
		for _, kind := range []string{"partition", "schedule", "link", "area", "task", "lock", "sema", "event", "board", "buffer", "port", "none"} {
			x.Names(kind)
			x.Find(kind, "nobody")
		}
	}
	if !reflect.DeepEqual(m, full()) || !reflect.DeepEqual(other, full()) {
		t.Error("changed:", m, other)
	}
	beyond(&m, func(path string, first, v reflect.Value) {
		if !reflect.DeepEqual(first.Interface(), v.Interface()) {
			t.Error("changed beyond the end of", path)
		}
	})
}
