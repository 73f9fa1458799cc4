package pack

import "monocoque/wire"

const (
	format     = 1
	lowest     = -1 // what is encoded as 0
	mostNumber = 1<<40 - lowest
	mostLength = 256 // of a list
	mostText   = 30  // bytes
)

// A coder writes the values that it is shown, or sets them to what it reads.
// Both go through the same functions, so they can't differ in the order of the values.
type coder interface {
	text(at *string)
	numbers(at ...*int)
	bools(at ...*bool)
	length(n int) int // of a list that has n elements so far: how many it is to have
}

// list passes a list of any kind, element by element.
func list[T any](c coder, at *[]T, element func(coder, *T)) {
	for i := range c.length(len(*at)) {
		if i == len(*at) {
			var zero T
			*at = append(*at, zero)
		}
		element(c, &(*at)[i])
	}
}

// A writer leaves the values as they are.
type writer struct {
	bytes []byte
}

// number adds the encoding of n. It is encoded on its own, since layer 2 would copy all the bytes ahead of it each time.
func (w *writer) number(n uint64) {
	w.bytes = append(w.bytes, wire.PutVar(nil, n)...)
}

func (w *writer) text(at *string) {
	w.bytes = append(w.bytes, wire.PutText(nil, *at)...)
}

func (w *writer) numbers(at ...*int) {
	for _, n := range at {
		w.number(uint64(*n - lowest))
	}
}

func (w *writer) bools(at ...*bool) {
	for _, b := range at {
		if *b {
			w.number(1)
		} else {
			w.number(0)
		}
	}
}

func (w *writer) length(n int) int {
	w.number(uint64(n))
	return n
}

// A reader reads nothing any more after an error, which layer 2 keeps: the rest of the values is nothing then.
type reader struct {
	from *wire.Reader
}

func (r reader) text(at *string) { *at = r.from.Text(mostText) }

func (r reader) numbers(at ...*int) {
	for _, n := range at {
		*n = int(r.from.Var(mostNumber)) + lowest
	}
}

func (r reader) bools(at ...*bool) {
	for _, b := range at {
		*b = r.from.Var(1) == 1
	}
}

func (r reader) length(int) int { return int(r.from.Var(mostLength)) }
