package board_test

import (
	"math"
	"math/rand"
	"slices"
	"testing"

	"monocoque/api"
	"monocoque/board"
)

// farIds are ids, which may be any ints.
var farIds = []int{math.MinInt, math.MinInt + 1, -64, -1, 0, 1, 63, 64, 1 << 32, math.MaxInt - 1, math.MaxInt}

// of returns a board, whose number of words may be.
func of(t *testing.T, words int) *board.Board {
	t.Helper()
	b, e := board.New(words)
	if e != api.OK || b == nil {
		t.Fatalf("New(%d) = %v, %d", words, b, e)
	}
	return b
}

// with returns a board that shows nothing, for which these ids wait.
func with(t *testing.T, words int, ids ...int) *board.Board {
	t.Helper()
	b := of(t, words)
	for _, id := range ids {
		waits(t, b, id)
	}
	return b
}

// showing returns a board that shows a message.
func showing(t *testing.T, words int, m ...uint32) *board.Board {
	t.Helper()
	b := of(t, words)
	shows(t, b, m)
	return b
}

// shows shows a message, for which these ids waited.
func shows(t *testing.T, b *board.Board, m []uint32, want ...int) {
	t.Helper()
	if got, e := b.Show(m); e != api.OK || !slices.Equal(got, want) {
		t.Fatalf("Show(%v) = %v, %d, want %v", m, got, e, want)
	}
	has(t, b, m)
}

// refuses shows a message that has too many words, which changes nothing.
func refuses(t *testing.T, b *board.Board, words int) {
	t.Helper()
	before := b.Clone()
	if got, e := b.Show(make([]uint32, words)); got != nil || e != api.ErrRange || !b.Same(before) {
		t.Errorf("Show of %d words = %v, %d, want ErrRange", words, got, e)
	}
}

// waits reads, which gives nothing.
func waits(t *testing.T, b *board.Board, id int) {
	t.Helper()
	if m, is := b.Read(id); m != nil || is {
		t.Fatalf("Read(%d) = %v, %v, want nothing", id, m, is)
	}
}

// reads reads, which gives this message.
func reads(t *testing.T, b *board.Board, id int, want ...uint32) {
	t.Helper()
	if m, is := b.Read(id); !is || !slices.Equal(m, want) {
		t.Fatalf("Read(%d) = %v, %v, want %v", id, m, is, want)
	}
}

// has tells whether a board shows this message, and nobody waits.
func has(t *testing.T, b *board.Board, want []uint32) {
	t.Helper()
	if m, is := b.Shown(); !is || !slices.Equal(m, want) {
		t.Errorf("Shown() = %v, %v, want %v", m, is, want)
	}
	line(t, b)
}

// blank tells whether a board shows nothing, and these ids wait.
func blank(t *testing.T, b *board.Board, want ...int) {
	t.Helper()
	if m, is := b.Shown(); m != nil || is {
		t.Errorf("Shown() = %v, %v, want nothing", m, is)
	}
	line(t, b, want...)
}

// line tells whether these ids wait.
func line(t *testing.T, b *board.Board, want ...int) {
	t.Helper()
	if got := b.Waiting(); !slices.Equal(got, want) {
		t.Errorf("Waiting() = %v, want %v", got, want)
	}
}

// spoil overwrites a list with all memory that belongs to it.
func spoil[T any](l []T) {
	clear(l[:cap(l)])
}

// The chapter's example.
func TestExample(t *testing.T) {
	b := with(t, 2, 7)
	shows(t, b, []uint32{1, 2}, 7)
	reads(t, b, 8, 1, 2)
	b.Clear()
	waits(t, b, 8)
}

// P25.1: numbers at and beyond the ends of what may be.
func TestNew(t *testing.T) {
	for words := 1; words <= 32; words++ {
		blank(t, of(t, words))
	}
	for _, words := range []int{math.MinInt, -33, -32, -1, 0, 33, 34, 64, 1 << 32, 1<<32 + 1, math.MaxInt} {
		if b, e := board.New(words); b != nil || e != api.ErrRange {
			t.Errorf("New(%d) = %v, %d, want ErrRange", words, b, e)
		}
	}
}

// P25.1: two calls make two boards.
func TestNewIsItsOwn(t *testing.T) {
	a, b := of(t, 2), of(t, 2)
	waits(t, a, 1)
	shows(t, b, []uint32{4})
	blank(t, a, 1)
	has(t, b, []uint32{4})
}

// P25.2: a message may have so many words and no more, whatever is shown and whoever waits.
func TestBounds(t *testing.T) {
	for words := 1; words <= 32; words++ {
		b := with(t, words, 3, -1)
		for range 2 {
			for _, n := range []int{words + 1, words + 2, 33, 64, 1 << 16} {
				refuses(t, b, n)
			}
			for n := words; n >= 0; n-- {
				m := slices.Repeat([]uint32{math.MaxUint32}, n)
				if n == words {
					shows(t, b, m, b.Waiting()...)
				} else {
					shows(t, b, m)
				}
			}
			shows(t, b, slices.Repeat([]uint32{7}, words))
		}
		b.Clear()
		refuses(t, b, words+1)
		blank(t, b)
	}
	b := with(t, 1, 5)
	refuses(t, b, 2)
	blank(t, b, 5)
}

// P25.2: a message is shown in place of what was shown.
func TestShow(t *testing.T) {
	b := of(t, 3)
	for _, m := range [][]uint32{{1, 2, 3}, {4}, {5, 6}, {}, {0}, nil, {0, 0, 0}, {0, 0, 0}} {
		shows(t, b, m)
		reads(t, b, 1, m...)
	}
	b.Clear()
	blank(t, b)
	shows(t, b, []uint32{9})
}

// The terms: an empty message is one, which is read, and for which nobody waits.
func TestEmptyMessage(t *testing.T) {
	for _, m := range [][]uint32{nil, {}} {
		b := with(t, 1, 4, 2)
		shows(t, b, m, 4, 2)
		reads(t, b, 4)
		has(t, b, nil)
		b.Clear()
		waits(t, b, 4)
		blank(t, b, 4)
	}
}

// P25.2: Clear shows nothing, and takes nobody from those that wait.
func TestClear(t *testing.T) {
	b := of(t, 2)
	b.Clear()
	blank(t, b)
	waits(t, b, 2)
	waits(t, b, 1)
	b.Clear()
	blank(t, b, 2, 1)
	shows(t, b, []uint32{8}, 2, 1)
	b.Clear()
	blank(t, b)
	b.Clear()
	blank(t, b)
	waits(t, b, 1)
	shows(t, b, []uint32{9}, 1)
}

// P25.3: while a message is shown, Read changes nothing, whoever reads.
func TestReadWhileShown(t *testing.T) {
	for _, id := range farIds {
		b := showing(t, 2, 4, 5)
		for range 3 {
			reads(t, b, id, 4, 5)
			has(t, b, []uint32{4, 5})
			if !b.Same(showing(t, 2, 4, 5)) {
				t.Errorf("Read(%d) changes something", id)
			}
		}
		b.Clear()
		blank(t, b)
		shows(t, b, nil)
	}
}

// P25.2 and P25.3: ids wait in the order in which they came, whichever they are.
func TestOrder(t *testing.T) {
	down := slices.Clone(farIds)
	slices.Reverse(down)
	for _, ids := range [][]int{{5}, {0, 0, 0}, {1, 2, 3}, {3, 2, 1}, {2, 3, 1}, farIds, down} {
		b := with(t, 2, ids...)
		want := slices.Compact(slices.Clone(ids))
		blank(t, b, want...)
		shows(t, b, []uint32{1}, want...)
		shows(t, b, []uint32{2})
	}
}

// P25.3: an id that waits already keeps its place.
func TestReadAgain(t *testing.T) {
	for id := range 5 {
		b := with(t, 2, 0, 1, 2, 3, 4)
		for range 3 {
			waits(t, b, id)
			blank(t, b, 0, 1, 2, 3, 4)
		}
		shows(t, b, []uint32{1}, 0, 1, 2, 3, 4)
	}
}

// P25.3: each place may be dropped, and nothing else changes; who does not wait is not dropped.
func TestDrop(t *testing.T) {
	for i, id := range farIds {
		b := with(t, 2, farIds...)
		want := slices.Delete(slices.Clone(farIds), i, i+1)
		if !b.Drop(id) {
			t.Errorf("Drop(%d) = false", id)
		}
		blank(t, b, want...)
		for _, x := range []int{id, 7, -2} {
			if b.Drop(x) {
				t.Errorf("Drop(%d) = true", x)
			}
		}
		blank(t, b, want...)
		waits(t, b, id)
		blank(t, b, append(want, id)...)
		shows(t, b, nil, append(want, id)...)
	}
	read := showing(t, 2, 4)
	reads(t, read, 1, 4)
	for _, b := range []*board.Board{of(t, 2), showing(t, 2), read} {
		want := b.Clone()
		for _, id := range farIds {
			if b.Drop(id) || !b.Same(want) {
				t.Errorf("Drop(%d) where nobody waits", id)
			}
		}
	}
	b := with(t, 2, 1)
	b.Drop(1)
	shows(t, b, nil)
}

// P25.1: what a board and its clone become is up to each of them.
func TestClone(t *testing.T) {
	b := with(t, 2, 1, 2, 3, 4, 5)
	b.Drop(5) // leaves memory behind the others
	c := b.Clone()
	if c == b || !c.Same(b) || !b.Same(c) {
		t.Fatal("a clone is not the same")
	}
	waits(t, c, 8)
	waits(t, b, 9)
	blank(t, c, 1, 2, 3, 4, 8)
	blank(t, b, 1, 2, 3, 4, 9)
	c.Drop(1)
	c.Drop(3)
	blank(t, c, 2, 4, 8)
	blank(t, b, 1, 2, 3, 4, 9)
	shows(t, b, []uint32{6, 7}, 1, 2, 3, 4, 9)
	blank(t, c, 2, 4, 8)
	refuses(t, c, 3) // the number of words is cloned as well
	d, f := b.Clone(), b.Clone()
	if !d.Same(b) {
		t.Error("a clone is not the same")
	}
	d.Clear()
	has(t, b, []uint32{6, 7})
	has(t, f, []uint32{6, 7})
	shows(t, b, []uint32{8})
	blank(t, d)
	has(t, f, []uint32{6, 7})
	e := showing(t, 2).Clone()
	has(t, e, nil)
}

// P25.1: Same looks at the number of words, at what is shown, and at who waits in which order.
func TestSame(t *testing.T) {
	all := func() []*board.Board {
		return []*board.Board{
			of(t, 1), of(t, 2), of(t, 32), showing(t, 1), showing(t, 2), showing(t, 2, 0), showing(t, 2, 1), showing(t, 1, 1),
			showing(t, 2, 0, 0), showing(t, 2, 0, 1), showing(t, 2, 1, 0), showing(t, 3, 0, 0),
			with(t, 1, 0), with(t, 2, 0), with(t, 2, 1), with(t, 2, -1), with(t, 2, 0, 1), with(t, 2, 1, 0), with(t, 2, 1, 2),
			with(t, 2, 0, 1, 2), with(t, 2, 0, 2, 1), with(t, 2, math.MinInt), with(t, 2, math.MaxInt),
		}
	}
	for i, a := range all() {
		for j, b := range all() {
			if a.Same(b) != (i == j) {
				t.Errorf("Same of %d and %d: %v", i, j, a.Same(b))
			}
		}
	}
}

// P25.1: how a board came to be what it is makes no difference.
func TestSameWhateverWasBefore(t *testing.T) {
	x, y := showing(t, 2, 8, 9), with(t, 2, 1, 2)
	x.Clear()
	if !x.Same(of(t, 2)) || !of(t, 2).Same(x) {
		t.Error("it shows nothing")
	}
	for _, id := range []int{5, 1, 7, 2} {
		waits(t, x, id)
	}
	if x.Same(y) {
		t.Error("5 and 7 wait")
	}
	x.Drop(7)
	x.Drop(5)
	if !x.Same(y) || !y.Same(x) || !x.Same(x) {
		t.Error("the same ids wait")
	}
	shows(t, x, []uint32{3}, 1, 2)
	shows(t, x, []uint32{})
	if !x.Same(showing(t, 2)) || x.Same(y) {
		t.Error("it shows an empty message")
	}
	x.Clear()
	if !x.Same(of(t, 2)) {
		t.Error("it shows nothing")
	}
}

// P25.4: messages that were passed and lists that were returned are the caller's.
func TestListsAreTheCallers(t *testing.T) {
	b := with(t, 3, 1, 2, 3)
	a, again := b.Waiting(), b.Waiting()
	spoil(a)
	blank(t, b, 1, 2, 3)
	b.Drop(1)
	waits(t, b, 4)
	if !slices.Equal(again, []int{1, 2, 3}) {
		t.Error("a list changes:", again)
	}
	c := b.Clone()
	m := []uint32{5, 6, 7}
	woken, _ := b.Show(m[:2])
	if !slices.Equal(m, []uint32{5, 6, 7}) {
		t.Error("what was passed changes:", m)
	}
	spoil(m)
	has(t, b, []uint32{5, 6})
	kept := b.Clone()
	shown, _ := b.Shown()
	read, _ := b.Read(9)
	spoil(shown)
	if !slices.Equal(read, []uint32{5, 6}) {
		t.Error("Shown and Read share")
	}
	spoil(read)
	has(t, b, []uint32{5, 6})
	read, _ = b.Read(9)
	shows(t, b, []uint32{8, 9, 10})
	if !slices.Equal(read, []uint32{5, 6}) {
		t.Error("what was read changes:", read)
	}
	b.Clear()
	waits(t, b, 5)
	waits(t, b, 6)
	if !slices.Equal(woken, []int{2, 3, 4}) {
		t.Error("what Show returned changes:", woken)
	}
	spoil(woken)
	blank(t, b, 5, 6)
	blank(t, c, 2, 3, 4)
	has(t, kept, []uint32{5, 6})
}

// P25.1 to P25.4: any calls in any order, against the definition.
func TestAgainstTheDefinition(t *testing.T) {
	dice := rand.New(rand.NewSource(25))
	for range 600 {
		words := 1 + dice.Intn(4)
		b, is, shown, ids := of(t, words), false, []uint32(nil), []int(nil)
		for range 100 {
			id := dice.Intn(8) - 2
			place := slices.Index(ids, id)
			switch dice.Intn(12) {
			case 0:
				shown = make([]uint32, dice.Intn(words+1))
				for i := range shown {
					shown[i] = dice.Uint32()
				}
				shows(t, b, shown, ids...)
				is, ids = true, nil
			case 1:
				refuses(t, b, words+1+dice.Intn(3))
			case 2, 3:
				b.Clear()
				is = false
			case 4, 5:
				if b.Drop(id) != (place >= 0) {
					t.Fatalf("Drop(%d) of %v", id, ids)
				}
				if place >= 0 {
					ids = slices.Delete(ids, place, place+1)
				}
			case 6:
				b = b.Clone()
			default:
				if is {
					reads(t, b, id, shown...)
					break
				}
				waits(t, b, id)
				if place < 0 {
					ids = append(ids, id)
				}
			}
			same := with(t, words, ids...)
			if is {
				has(t, b, shown)
				shows(t, same, shown)
			} else {
				blank(t, b, ids...)
			}
			if !b.Same(same) || !same.Same(b) {
				t.Error("one that was made anew is not the same")
			}
			if t.Failed() {
				t.FailNow()
			}
		}
	}
}
