package isa_test

import (
	"math"
	"slices"
	"strconv"
	"strings"
	"testing"

	"monocoque/api"
	"monocoque/isa"
)

// row is a line of the chapter's table.
type row struct {
	name, fields string
	operands     []string // of a text: A and B are registers, N is a number, P is a label
	least, most  int      // the bounds of N
	price        int
}

// table is the chapter's table, in the order of operations: the name, the fields, the operands, the bounds of N, and the price.
const table = `
nop - - 0 0 1
set AN AN -262144 262143 1
move AB AB 0 0 1
add AB AB 0 0 1
addn AN AN -262144 262143 1
sub AB AB 0 0 1
mul AB AB 0 0 3
div AB AB 0 0 8
and AB AB 0 0 1
or AB AB 0 0 1
xor AB AB 0 0 1
shl AN AN 0 31 1
shr AN AN 0 31 1
load ABN ABN -262144 262143 2
store ABN ABN -262144 262143 2
jump N P -262144 262143 1
jz AN AP -262144 262143 1
jnz AN AP -262144 262143 1
loop ABN PN 1 262143 1
call N P 0 262143 2
ret - - 0 0 2
push A A 0 0 2
pop A A 0 0 2
trap N N 0 262143 1`

var rows = readTable()

func readTable() (rows []row) {
	for _, line := range strings.Split(table, "\n")[1:] {
		w := strings.Fields(line)
		r := row{name: w[0], fields: w[1], price: int(w[5][0] - '0')}
		if w[2] != "-" {
			r.operands = strings.Split(w[2], "")
		}
		r.least, _ = strconv.Atoi(w[3])
		r.most, _ = strconv.Atoi(w[4])
		rows = append(rows, r)
	}
	return rows
}

// numbers are those at the ends of all bounds, and far beyond them.
var numbers = []int{
	math.MinInt, math.MinInt + 1, -1 << 32, -1<<32 + 1, -1 << 31, -1 << 20, -1 << 19, -262145, -262144, -262143, -33, -32, -31, -16, -2, -1,
	0, 1, 2, 15, 16, 17, 30, 31, 32, 33, 255, 256, 262142, 262143, 262144, 262145, 1<<19 - 1, 1 << 19, 1<<19 + 1, 1 << 20, 1 << 31, 1 << 32, 1<<32 + 1, math.MaxInt - 1, math.MaxInt,
}

// isValid reports whether i is an instruction, by the chapter's words.
func isValid(i isa.Instr) bool {
	if i.Op < 0 || i.Op > 23 {
		return false
	}
	r := rows[i.Op]
	for field, n := range map[string]int{"A": i.A, "B": i.B, "N": i.N} {
		if !strings.Contains(r.fields, field) && n != 0 {
			return false
		}
	}
	if i.A < 0 || i.A > 15 || i.B < 0 || i.B > 15 || i.N < r.least || i.N > r.most {
		return false
	}
	return r.name != "loop" || i.A != 0 || i.B != 0
}

// wordOf returns the word of an instruction, by the chapter's words.
func wordOf(i isa.Instr) uint32 {
	n := i.N
	if n < 0 {
		n += 524288
	}
	return uint32(((i.Op*16+i.A)*16+i.B)*524288 + n)
}

// placeOf returns the place for which the label of an instruction at a place stands, if it has one.
func placeOf(i isa.Instr, at int) (int, bool) {
	switch rows[i.Op].name {
	case "jump", "jz", "jnz":
		return at + 1 + i.N, true
	case "call":
		return i.N, true
	case "loop":
		return at + 1 + 16*i.A + i.B, true
	}
	return 0, false
}

// words encodes instructions.
func words(t *testing.T, l ...isa.Instr) (code []uint32) {
	t.Helper()
	for _, i := range l {
		w, e := isa.Encode(i)
		if e != api.OK {
			t.Fatalf("Encode(%v) = %d", i, e)
		}
		code = append(code, w)
	}
	return code
}

// short is a text, shortened for a remark.
func short(s string) string {
	if len(s) > 300 {
		return s[:300] + ".."
	}
	return s
}

// yields tells whether Assemble of s returns these words.
func yields(t *testing.T, s string, want ...uint32) {
	t.Helper()
	if code, line, e := isa.Assemble(s); !slices.Equal(code, want) || line != 0 || e != api.OK {
		t.Errorf("Assemble(%q) = %x, %d, %d, want %x", short(s), code, line, e, want)
	}
}

// fails tells whether Assemble of s returns that line and that error, and nothing else.
func fails(t *testing.T, s string, line int, want api.Errno) {
	t.Helper()
	if code, at, e := isa.Assemble(s); len(code) != 0 || at != line || e != want {
		t.Errorf("Assemble(%q) = %x, %d, %d, want the line %d and the error %d", short(s), code, at, e, line, want)
	}
}

// lists tells whether List of code returns s, and Assemble of that the code.
func lists(t *testing.T, code []uint32, s string) {
	t.Helper()
	if got, e := isa.List(code); got != s || e != api.OK {
		t.Errorf("List(%x) = %q, %d, want %q", code, short(got), e, short(s))
	}
	yields(t, s, code...)
}
