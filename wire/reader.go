package wire

import "monocoque/api"

// Reader reads bytes from the front on, up to the first error.
type Reader struct {
	bytes []byte
	at    int
	err   api.Errno
}

// NewReader returns a reader of a copy of b.
func NewReader(b []byte) *Reader {
	return &Reader{bytes: fresh(b, 0)}
}

// read gives take the bytes that are left; take returns a value, how many bytes it has used, and its error.
// What holds for all reads is decided here: nil readers, errors that remain, and a position that moves only without one.
func read[T any](r *Reader, take func(left []byte) (T, int, api.Errno)) T {
	var zero T
	if r == nil || r.err != api.OK {
		return zero
	}
	v, used, e := take(r.bytes[r.at:])
	if e != api.OK {
		r.err = e
		return zero
	}
	r.at += used
	return v
}

// Byte reads a byte.
func (r *Reader) Byte() byte {
	return read(r, func(left []byte) (byte, int, api.Errno) {
		if len(left) < 1 {
			return 0, 0, api.ErrShort
		}
		return left[0], 1, api.OK
	})
}

// Word reads a word.
func (r *Reader) Word() uint32 {
	return read(r, func(left []byte) (uint32, int, api.Errno) {
		if len(left) < word {
			return 0, 0, api.ErrShort
		}
		return toWord(left), word, api.OK
	})
}

// Var reads a number that is not greater than most.
func (r *Reader) Var(most uint64) uint64 {
	return read(r, func(left []byte) (uint64, int, api.Errno) {
		return toBounded(left, most)
	})
}

// Text reads a text of at most most bytes.
func (r *Reader) Text(most int) string {
	return read(r, func(left []byte) (string, int, api.Errno) {
		n, used, e := toBounded(left, uint64(max(most, 0)))
		if e != api.OK {
			return "", 0, e
		}
		left = left[used:]
		// Held against each other as uint64: such a length may be beyond what can be added to an int.
		if n > uint64(len(left)) {
			return "", 0, api.ErrShort
		}
		return string(left[:n]), used + int(n), api.OK
	})
}

// toBounded is toNumber with an upper bound.
func toBounded(b []byte, most uint64) (uint64, int, api.Errno) {
	n, used, e := toNumber(b)
	if e == api.OK && n > most {
		return 0, 0, api.ErrRange
	}
	return n, used, e
}

// Left returns the number of bytes from the position on.
func (r *Reader) Left() int {
	if r == nil {
		return 0
	}
	return len(r.bytes) - r.at
}

// Err returns the error of the reader, or OK.
func (r *Reader) Err() api.Errno {
	if r == nil {
		return api.ErrArg
	}
	return r.err
}

// End returns the error of the reader, and ErrForm if there is none but bytes are left.
func (r *Reader) End() api.Errno {
	if e := r.Err(); e != api.OK {
		return e
	}
	if r.Left() > 0 {
		return api.ErrForm
	}
	return api.OK
}
