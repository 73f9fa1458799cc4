package store

import (
	"bytes"

	"monocoque/wire"
)

// The cells of a bank: its mark, its number, the length of its block, the block, and the sum of all these but the mark.
const (
	numberAt = 1
	lengthAt = 5
	blockAt  = 7
	sumCells = 4
	extra    = blockAt + sumCells // cells beside those of the block
)

// The mark of a bank.
const (
	invalid = 0
	valid   = 165
)

// contents is what a valid bank contains.
type contents struct {
	number uint32
	block  []byte
}

// newer reports whether c was written after o. Numbers begin anew after the greatest one, so their difference counts.
func (c contents) newer(o contents) bool { return int32(c.number-o.number) > 0 }

// room returns how many bytes a block may have in a bank.
func room(bank []byte) int { return len(bank) - extra }

// read returns what a bank contains, in the memory of the bank, or false if it is not valid.
func read(bank []byte) (contents, bool) {
	if len(bank) < extra || bank[0] != valid {
		return contents{}, false
	}
	n := int(toNumber(bank[lengthAt:blockAt]))
	if n > room(bank) {
		return contents{}, false
	}
	end := blockAt + n
	if !bytes.Equal(bank[end:end+sumCells], sumOf(bank[numberAt:end])) {
		return contents{}, false
	}
	return contents{number: toNumber(bank[numberAt:lengthAt]), block: bank[blockAt:end]}, true
}

// sumOf returns the sum of some bytes, as bytes.
func sumOf(b []byte) []byte { return wire.PutWord(nil, wire.Sum(b)) }

// toNumber returns the number that some bytes are, the most significant one first.
func toNumber(b []byte) (n uint32) {
	for _, c := range b {
		n = n<<8 | uint32(c)
	}
	return n
}

// cells returns the cells that are to be written, in order, for a bank whose first cell has this place. The mark comes
// first and last: with only a part of the others written, the bank is not valid.
func (c contents) cells(at int) []cell {
	n := len(c.block)
	b := append(wire.PutWord(nil, c.number), byte(n>>8), byte(n))
	b = append(b, c.block...)
	b = append(b, sumOf(b)...)
	l := []cell{{at: at, to: invalid}}
	for i, to := range b {
		l = append(l, cell{at: at + numberAt + i, to: to})
	}
	return append(l, cell{at: at, to: valid})
}
