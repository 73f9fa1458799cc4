// Package wire is layer 2: encoding of numbers, texts and words, and a checksum.
package wire

import (
	"math/bits"

	"monocoque/api"
)

const (
	digit   = 7        // bits of a number in each of its bytes
	more    = 1 << 7   // the bit that is set in each byte of a number but the last one
	longest = 10       // bytes of the longest encoding of a number
	highest = more | 1 // the first byte of the longest encodings: a greater one is beyond 64 bits
	word    = 4        // bytes of a word
)

// PutVar returns b followed by the encoding of the number n.
func PutVar(b []byte, n uint64) []byte {
	return addNumber(fresh(b, longest), n)
}

// PutText returns b followed by the encoding of the text s.
func PutText(b []byte, s string) []byte {
	return append(addNumber(fresh(b, longest+len(s)), uint64(len(s))), s...)
}

// PutWord returns b followed by the encoding of the word w.
func PutWord(b []byte, w uint32) []byte {
	return addWord(fresh(b, word), w)
}

// Seal returns b followed by the encoding of its sum.
func Seal(b []byte) []byte {
	return PutWord(b, Sum(b))
}

// Open returns what Seal was given, if b is what it returned.
func Open(b []byte) ([]byte, api.Errno) {
	n := len(b) - word
	if n < 0 {
		return nil, api.ErrShort
	}
	if toWord(b[n:]) != Sum(b[:n]) {
		return nil, api.ErrSum
	}
	return fresh(b[:n], 0), api.OK
}

// fresh copies b, with room behind it: what is added there must not show in b or in anything that shares b's memory.
func fresh(b []byte, room int) []byte {
	return append(make([]byte, 0, len(b)+room), b...)
}

// addNumber writes the encoding of n behind b, in the memory of b.
func addNumber(b []byte, n uint64) []byte {
	for shift := (bits.Len64(n|1) - 1) / digit * digit; shift > 0; shift -= digit {
		b = append(b, byte(n>>shift)|more)
	}
	return append(b, byte(n)&^more)
}

// addWord writes the encoding of w behind b, in the memory of b.
func addWord(b []byte, w uint32) []byte {
	return append(b, byte(w>>24), byte(w>>16), byte(w>>8), byte(w))
}

// toWord decodes the word at the front of b, which has enough bytes.
func toWord(b []byte) uint32 {
	return uint32(b[0])<<24 | uint32(b[1])<<16 | uint32(b[2])<<8 | uint32(b[3])
}

// toNumber decodes the number at the front of b, and counts its bytes.
func toNumber(b []byte) (n uint64, used int, e api.Errno) {
	ended := false
digits:
	for _, c := range b {
		used++
		n = n<<digit | uint64(c&^more)
		switch {
		case c < more:
			ended = true
			break digits
		case used == longest:
			break digits
		}
	}
	switch {
	case !ended && used < longest:
		return 0, 0, api.ErrShort
	case !ended, b[0] == more, used == longest && b[0] > highest:
		return 0, 0, api.ErrForm
	}
	return n, used, api.OK
}
