package wire

// steps has, for each value of the highest four bits of the register, what four shifts combine the register with.
var steps = [16]uint32{
	0x00000000, 0x04c11db7, 0x09823b6e, 0x0d4326d9,
	0x130476dc, 0x17c56b6b, 0x1a864db2, 0x1e475005,
	0x2608edb8, 0x22c9f00f, 0x2f8ad6d6, 0x2b4bcb61,
	0x350c9b64, 0x31cd86d3, 0x3c8ea00a, 0x384fbdbd,
}

// Sum returns the sum of b.
func Sum(b []byte) uint32 {
	register := ^uint32(0)
	for _, c := range b {
		register ^= uint32(c) << 24
		// Twice four bits, not eight at once: the table for that is too long to be written out.
		register = register<<4 ^ steps[register>>28]
		register = register<<4 ^ steps[register>>28]
	}
	return ^register
}
