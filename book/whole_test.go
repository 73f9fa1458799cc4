package book_test

import (
	"math"
	"reflect"
	"testing"

	"monocoque/book"
)

// isSame tells whether Same says so of both orders.
func isSame(t *testing.T, a, b book.Module) bool {
	t.Helper()
	if book.Same(a, b) != book.Same(b, a) {
		t.Errorf("Same depends on the order of %v and %v", a, b)
	}
	return book.Same(a, b)
}

// P6.1: Same of equal modules, however they were made.
func TestSame(t *testing.T) {
	var zero book.Module
	one := book.Module{Name: "m"}
	if !isSame(t, zero, zero) || !isSame(t, full(), full()) || !isSame(t, full(), deep(full(), 5)) {
		t.Error("equal modules are not the same")
	}
	if isSame(t, zero, full()) || isSame(t, zero, one) || isSame(t, one, full()) {
		t.Error("unequal modules are the same")
	}
}

// P6.1: Same of modules that differ in one number, bool or text, whichever it is.
func TestSameByValues(t *testing.T) {
	a, b := full(), full()
	n := 0
	leaves(&b, func(path string, v reflect.Value) {
		n++
		kept := reflect.New(v.Type()).Elem()
		kept.Set(v)
		change(v)
		if isSame(t, a, b) {
			t.Error("the same with another", path)
		}
		v.Set(kept)
		if !isSame(t, a, b) {
			t.Error("not the same after", path)
		}
	})
	if n != 2*76+16+12+6+6+2 { // of the partitions, the schedules, the channels, the links, the rules and the module itself
		t.Error("values that were looked at:", n)
	}
}

// P6.1: Same of modules that differ in one list, by order, or by one element at either end.
func TestSameByLists(t *testing.T) {
	a, b := full(), full()
	lists(&b, func(path string, v reflect.Value) {
		kept := reflect.ValueOf(v.Interface())
		swapped := reflect.MakeSlice(v.Type(), 2, 2)
		swapped.Index(0).Set(kept.Index(1))
		swapped.Index(1).Set(kept.Index(0))
		longer := reflect.MakeSlice(v.Type(), 3, 3)
		reflect.Copy(longer, kept)
		twice := reflect.MakeSlice(v.Type(), 2, 2)
		twice.Index(0).Set(kept.Index(0))
		twice.Index(1).Set(kept.Index(0))
		others := []reflect.Value{swapped, longer, twice, kept.Slice(0, 1), kept.Slice(1, 2), kept.Slice(0, 0), reflect.Zero(v.Type())}
		for i, o := range others {
			if v.Set(o); isSame(t, a, b) {
				t.Errorf("the same with another list (%d) in %s", i, path)
			}
		}
		v.Set(kept)
	})
	if !isSame(t, a, b) {
		t.Error("not the same at the end")
	}
}

// P6.1 and R3: a nil list equals an empty one, in each place.
func TestSameOfEmptyLists(t *testing.T) {
	a, b := full(), full()
	empty := func(v reflect.Value) reflect.Value { return reflect.MakeSlice(v.Type(), 0, 3) }
	lists(&a, func(path string, v reflect.Value) {
		if plain(path) == ".Partitions" || plain(path) == ".Schedules" || plain(path) == ".Channels" {
			return // there is something below them, which has its turn first
		}
		v.SetZero()
	})
	lists(&b, func(path string, v reflect.Value) {
		if plain(path) == ".Partitions" || plain(path) == ".Schedules" || plain(path) == ".Channels" {
			return
		}
		v.Set(empty(v))
	})
	if !isSame(t, a, b) || !isSame(t, a.Clone(), b) || !isSame(t, a, b.Clone()) {
		t.Error("nil lists below are not equal to empty ones")
	}
	c, d := book.Module{Name: "m"}, book.Module{Name: "m"}
	lists(&d, func(_ string, v reflect.Value) { v.Set(empty(v)) })
	if !isSame(t, c, d) || !isSame(t, c.Clone(), d) || !isSame(t, c, d.Clone()) || c.Right() != d.Right() || d.Size() != 0 {
		t.Error("nil lists are not equal to empty ones")
	}
}

// P6.1: Same and Clone take what is not right too, and what is too long.
func TestSameAndCloneOfWhatIsNotRight(t *testing.T) {
	for _, n := range []int{math.MinInt, -1, 1 << 40, math.MaxInt} {
		m := full()
		leaves(&m, func(_ string, v reflect.Value) {
			switch v.Kind() {
			case reflect.Int:
				v.SetInt(int64(n))
			case reflect.String:
				v.SetString("no name\xff")
			}
		})
		m.Links = make([]book.Link, 1000)
		m.Partitions = append(m.Partitions, make([]book.Partition, 100)...)
		if m.Right() || !isSame(t, m, m.Clone()) || !reflect.DeepEqual(m, m.Clone()) || isSame(t, m, full()) || m.Size() != 2+36+100+6+6+1000+2 {
			t.Error("with", n, m.Size())
		}
		for _, kind := range []string{"partition", "link", "area"} {
			if m.Find(kind, "x") != -1 || m.Partitions[0].Find(kind, "x") != -1 {
				t.Error("found x")
			}
		}
	}
}

// P6.1 and P6.4: a clone is equal, and what becomes of either of the two does not reach the other one.
func TestClone(t *testing.T) {
	for _, spare := range []int{0, 1, 7} {
		m := deep(full(), spare)
		c := m.Clone()
		if !isSame(t, m, c) || !reflect.DeepEqual(c, full()) {
			t.Fatal("not equal:", c)
		}
		spoil(&c)
		if !reflect.DeepEqual(m, full()) {
			t.Error("the original has changed with its clone:", m)
		}
		c = m.Clone()
		spoil(&m)
		if !reflect.DeepEqual(c, full()) {
			t.Error("the clone has changed with its original:", c)
		}
	}
	if c := (book.Module{}).Clone(); !reflect.DeepEqual(c, book.Module{}) {
		t.Error(c)
	}
}

// spoil changes all values of m, and all that its lists could share beyond their ends.
func spoil(m *book.Module) {
	leaves(m, func(_ string, v reflect.Value) { change(v) })
	lists(m, func(_ string, v reflect.Value) {
		whole := v.Slice(0, v.Cap())
		for i := v.Len(); i < v.Cap(); i++ {
			whole.Index(i).SetZero()
		}
	})
}

// P6.4: what lies in the spare room of a list that was cloned stays, whatever is appended to the clone, and to the list.
func TestCloneHasItsOwnRoom(t *testing.T) {
	m := full()
	lists(&m, func(path string, v reflect.Value) {
		kept := reflect.ValueOf(v.Interface())
		for n := range 3 {
			v.Set(kept.Slice(0, n))
			c := m.Clone()
			lists(&c, func(p string, w reflect.Value) {
				if p == path {
					w.Set(reflect.Append(w, reflect.Zero(w.Type().Elem())))
				}
			})
			v.Set(kept)
			if !reflect.DeepEqual(m, full()) {
				t.Fatalf("a clone shares the room of %s behind %d", path, n)
			}
		}
	})
}

// P6.1: lists that the original shares within itself are several ones in its clone.
func TestCloneSharesNothingWithin(t *testing.T) {
	p := part("p")
	m := book.Module{Partitions: []book.Partition{p, p}}
	c := m.Clone()
	c.Partitions[0].Areas[0].Name = "other"
	c.Partitions[0].Health[1].Do = 0
	if !reflect.DeepEqual(c.Partitions[1], part("p")) || !reflect.DeepEqual(m.Partitions[0], part("p")) {
		t.Error("shared:", c)
	}
}

// P6.2: Size of a module that has two things everywhere, and of none.
func TestSize(t *testing.T) {
	if n := (book.Module{}).Size(); n != 0 {
		t.Error("of nothing:", n)
	}
	if n := (book.Module{Name: "m", Mode: 5}).Size(); n != 0 {
		t.Error("of a name:", n)
	}
	// 2 partitions with 9 pairs each, 2 schedules and 2 channels with a pair each, 2 links, 2 rules
	if n := full().Size(); n != 2+2*18+2+4+2+4+2+2 {
		t.Error("of the full one:", n)
	}
}

// P6.2: each thing counts once, of whatever kind it is, and whatever it is like.
func TestSizeByLists(t *testing.T) {
	m := full()
	whole := m.Size()
	leaves(&m, func(path string, v reflect.Value) {
		if change(v); m.Size() != whole {
			t.Fatal("another size with another", path)
		}
	})
	met := 0
	lists(&m, func(path string, v reflect.Value) {
		met++
		kept := reflect.ValueOf(v.Interface())
		longer := reflect.MakeSlice(v.Type(), 100, 100)
		reflect.Copy(longer, kept)
		if v.Set(longer); m.Size() != whole+98 {
			t.Errorf("with 98 more in %s: %d", path, m.Size())
		}
		v.Set(kept)
		if m.Size() != whole {
			t.Errorf("not restored: %s", path)
		}
	})
	if met != 5+2*9+2+2 {
		t.Error("lists that were looked at:", met)
	}
	for _, n := range []int{1, 5, 16} {
		m := book.Module{Partitions: make([]book.Partition, n)}
		if m.Size() != n {
			t.Errorf("of %d empty partitions: %d", n, m.Size())
		}
	}
}
