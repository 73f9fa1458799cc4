package store_test

import (
	"bytes"
	"math/rand"
	"testing"

	"monocoque/api"
	"monocoque/store"
)

// keeps tells whether a block is the last one, or, if there is to be none, none is, after power has failed as well.
func keeps(t *testing.T, s *store.Store, is bool, block []byte) {
	t.Helper()
	for _, x := range []*store.Store{s, opened(t, s.Cells())} {
		if is {
			reads(t, x, block...)
		} else {
			lacks(t, x)
		}
	}
}

// change is a cell, and what it is to hold.
type change struct {
	at int
	to byte
}

// model is a store by the definition.
type model struct {
	cells []byte
	todo  []change
}

// begin notes what is to be written, part by part.
func (m *model) begin(block []byte) api.Errno {
	half := len(m.cells) / 2
	switch {
	case len(m.todo) > 0:
		return api.ErrState
	case len(block) > half-11:
		return api.ErrRange
	}
	bank, number, _ := last(m.cells)
	from := 0
	if bank == 0 {
		from = half
	}
	if bank < 0 {
		number = 0
	}
	m.todo = append(m.todo, change{from, 0})
	for i, b := range bankOf(len(m.cells), number+1, block, 0)[:11+len(block)] {
		if i > 0 {
			m.todo = append(m.todo, change{from + i, b})
		}
	}
	m.todo = append(m.todo, change{from, 165})
	return api.OK
}

func (m *model) step() bool {
	if len(m.todo) == 0 {
		return false
	}
	m.cells[m.todo[0].at] = m.todo[0].to
	m.todo = m.todo[1:]
	return true
}

// matches tells whether a store is what the model says.
func (m *model) matches(t *testing.T, s *store.Store) {
	t.Helper()
	holds(t, s, m.cells)
	bank, _, block := last(m.cells)
	keeps(t, s, bank >= 0, block)
	if s.Busy() != (len(m.todo) > 0) || s.Room() != len(m.cells)/2-11 {
		t.Fatalf("Busy() = %v, Room() = %d", s.Busy(), s.Room())
	}
}

// call makes one call of the store and of the model.
func (m *model) call(t *testing.T, dice *rand.Rand, s *store.Store) *store.Store {
	t.Helper()
	got, want := api.OK, api.OK
	block := some(dice, dice.Intn(s.Room()+2))
	switch dice.Intn(12) {
	case 0:
		m.todo = nil
		return opened(t, s.Cells())
	case 1:
		return s.Clone()
	case 2:
		got, want = s.Write(block), m.begin(block)
		if want == api.OK {
			for m.step() {
			}
		}
	case 3, 4:
		got, want = s.Begin(block), m.begin(block)
	case 5:
		at := dice.Intn(len(m.cells))
		if len(m.todo) == 0 {
			m.cells[at] = byte(dice.Intn(256))
			return opened(t, m.cells)
		}
	default:
		for range dice.Intn(2 * s.Room()) {
			if s.Step() != m.step() {
				t.Fatal("a step more or less")
			}
		}
	}
	if got != want {
		t.Fatalf("the error for %d bytes is %d, want %d", len(block), got, want)
	}
	return s
}

// P35.1 to P35.4: any calls in any order, cells that fail among them, against the definition.
func TestAgainstTheDefinition(t *testing.T) {
	dice := rand.New(rand.NewSource(350))
	valid := 0
	for range 400 {
		m := &model{cells: some(dice, 32+2*dice.Intn(12))}
		s := opened(t, bytes.Clone(m.cells))
		for range 100 {
			s = m.call(t, dice, s)
			m.matches(t, s)
			if bank, _, _ := last(m.cells); bank == 1 {
				valid++
			}
		}
	}
	if valid < 5000 {
		t.Error("the second bank had the last block only so often:", valid)
	}
}
