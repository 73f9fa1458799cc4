package isa_test

import (
	"math/rand"
	"slices"
	"strconv"
	"strings"
	"testing"

	"monocoque/api"
	"monocoque/isa"
)

// The chapter's example, and that of the whole.
func TestExamples(t *testing.T) {
	yields(t, "set r1 5", 0x08800005)
	yields(t, "loop x 3\nnop\nx:\n", words(t, isa.Instr{Op: isa.Loop, B: 1, N: 3}, isa.Instr{})...)
	yields(t, "set r1 5\ntrap 3", words(t, isa.Instr{Op: isa.Set, A: 1, N: 5}, isa.Instr{Op: isa.Trap, N: 3})...)
	yields(t, "x: jump x", words(t, isa.Instr{Op: isa.Jump, N: -1})...)
}

// P13.2: each operation, by each of its operands.
func TestOperations(t *testing.T) {
	text := `nop
set r1 -7
move r2 r3
add r15 r0
addn r0 262143
sub r4 r5
mul r6 r7
div r8 r9
and r10 r11
or r12 r13
xor r14 r15
shl r1 0
shr r2 31
load r3 r4 -262144
store r5 r6 9
jump first
jz r7 last
jnz r8 first
loop last 10
first: call last
ret
push r9
pop r10
last: trap 0
`
	code := words(t, isa.Instr{Op: 0}, isa.Instr{Op: 1, A: 1, N: -7}, isa.Instr{Op: 2, A: 2, B: 3}, isa.Instr{Op: 3, A: 15}, isa.Instr{Op: 4, N: 262143},
		isa.Instr{Op: 5, A: 4, B: 5}, isa.Instr{Op: 6, A: 6, B: 7}, isa.Instr{Op: 7, A: 8, B: 9}, isa.Instr{Op: 8, A: 10, B: 11}, isa.Instr{Op: 9, A: 12, B: 13},
		isa.Instr{Op: 10, A: 14, B: 15}, isa.Instr{Op: 11, A: 1}, isa.Instr{Op: 12, A: 2, N: 31}, isa.Instr{Op: 13, A: 3, B: 4, N: -262144},
		isa.Instr{Op: 14, A: 5, B: 6, N: 9}, isa.Instr{Op: 15, N: 3}, isa.Instr{Op: 16, A: 7, N: 6}, isa.Instr{Op: 17, A: 8, N: 1}, isa.Instr{Op: 18, B: 4, N: 10},
		isa.Instr{Op: 19, N: 23}, isa.Instr{Op: 20}, isa.Instr{Op: 21, A: 9}, isa.Instr{Op: 22, A: 10}, isa.Instr{Op: 23})
	yields(t, text, code...)
	yields(t, strings.TrimSuffix(text, "\n"), code...)
}

// P13.2: no instructions.
func TestNoInstructions(t *testing.T) {
	for _, s := range []string{"", "\n", "\n\n\n", " ", "   \n ", ";", "; nop", " ;x: y\n;;\n", "x:", "x:\ny:", " x:  ;x:\n", ";\n"} {
		yields(t, s)
	}
}

// P13.2: blanks and comments, wherever they may be, change nothing.
func TestBlanksAndComments(t *testing.T) {
	for _, s := range []string{
		"x: add r1 r2", "  x:   add  r1     r2  ", "x: add r1 r2;", "x: add r1 r2 ; r3", "x: add r1 r2;x:\r\t\x00\xff", "x:\nadd r1 r2", "x: ; y: nop\n; nop\nadd r1 r2\n",
		"\n\nadd r1 r2;;nop\n\n", "add r1 r2\nx:", "add r1 r2 ;\n;add r1 r2",
	} {
		yields(t, s, words(t, isa.Instr{Op: isa.Add, A: 1, B: 2})...)
	}
	yields(t, "nop\n\n;\n nop \n x: nop", 0, 0, 0)
}

// P13.2: no other byte is a blank, ends a line or begins a comment.
func TestOtherBytes(t *testing.T) {
	for c := range 256 {
		b := string([]byte{byte(c)})
		if strings.Contains(" \n;", b) {
			continue
		}
		if c == ':' { // it ends the label nop
			yields(t, "nop"+b)
		} else {
			fails(t, "nop"+b, 1, api.ErrForm)
		}
		fails(t, b+"nop", 1, api.ErrForm)
		fails(t, b, 1, api.ErrForm)
		fails(t, "set"+b+"r1 5", 1, api.ErrForm)
		fails(t, "set r1"+b+"5", 1, api.ErrForm)
		fails(t, "nop\nset r1 5 "+b, 2, api.ErrForm)
		if c < '0' || c > '9' {
			fails(t, "set r1 5"+b, 1, api.ErrForm)
		}
	}
	for _, b := range []string{"\u00a0", "\u0085", "\u2003", "\u3000", "\r", "\r\n", "\t", "\v", "\f"} {
		fails(t, "nop"+b, 1, api.ErrForm)
		fails(t, b+"nop", 1, api.ErrForm)
		fails(t, "set r1"+b+"5", 1, api.ErrForm)
	}
	fails(t, "set;r1 5", 1, api.ErrForm)
	fails(t, "set\nr1 5", 1, api.ErrForm)
}

// P13.2: which words are labels, where they are defined and where they are used.
func TestLabels(t *testing.T) {
	for _, x := range []string{"a", "z", "A", "Z", "x1", "x_", "X_9_y", "aZ09_", "jump", "r1", "L0", "nop", strings.Repeat("a", 30), "Z" + strings.Repeat("_", 29)} {
		yields(t, x+": jump "+x, words(t, isa.Instr{Op: isa.Jump, N: -1})...)
		yields(t, "call "+x+"\n"+x+":", words(t, isa.Instr{Op: isa.Call, N: 1})...)
	}
	for _, x := range []string{"", "1", "1x", "_", "_x", "0", "-", "x-", "x.y", "x:", "x:y", ":", "é", "xé", "x\r", "x\t", "x\x00", "\xffx", "@", "[", "`", "{", "x@", "x[", "x`", "x{", "x/", strings.Repeat("a", 31), strings.Repeat("a", 60000)} {
		fails(t, x+":", 1, api.ErrForm)
		fails(t, "nop\n"+x+": nop\n", 2, api.ErrForm)
		fails(t, "\n jump "+x, 2, api.ErrForm)
		fails(t, "jz r1 "+x, 1, api.ErrForm)
		fails(t, "jnz r1 "+x, 1, api.ErrForm)
		fails(t, "loop "+x+" 1", 1, api.ErrForm)
		fails(t, "call "+x, 1, api.ErrForm)
	}
	for _, s := range []string{"x :", "x:nop", "x: y: nop", "x: y:", ": nop", "x: :", "nop x:", "jump x: y"} {
		fails(t, s, 1, api.ErrForm)
	}
}

// P13.2: upper and lower case letters make different labels; each one is a label of its own.
func TestLabelsDiffer(t *testing.T) {
	yields(t, "x: nop\nX: jump x\njump X\nx1: jump x1\n", words(t, isa.Instr{}, isa.Instr{Op: isa.Jump, N: -2}, isa.Instr{Op: isa.Jump, N: -2}, isa.Instr{Op: isa.Jump, N: -1})...)
	yields(t, "x:\ny:\n\nz: nop\njump x\njump y\njump z", words(t, isa.Instr{}, isa.Instr{Op: isa.Jump, N: -2}, isa.Instr{Op: isa.Jump, N: -3}, isa.Instr{Op: isa.Jump, N: -4})...)
}

// P13.2: a label that was defined before, whatever follows it.
func TestTwice(t *testing.T) {
	for _, rest := range []string{"", " nop", " none", " set r16 x", " nop nop", " x:", " jump y", ";"} {
		fails(t, "x: nop\nx:"+rest, 2, api.ErrTwice)
		fails(t, "x:\ny:\n\n x:"+rest+"\nnone", 4, api.ErrTwice)
	}
	fails(t, "x:\n1: none\nx:", 2, api.ErrForm)
	fails(t, "jump y\nx:\nx:", 3, api.ErrTwice)
}

// P13.2: which words are registers.
func TestRegisters(t *testing.T) {
	for n := range 16 {
		r := "r" + strconv.Itoa(n)
		yields(t, "push "+r, words(t, isa.Instr{Op: isa.Push, A: n})...)
		yields(t, "move r3 "+r, words(t, isa.Instr{Op: isa.Move, A: 3, B: n})...)
		yields(t, "load "+r+" r7 1", words(t, isa.Instr{Op: isa.Load, A: n, B: 7, N: 1})...)
	}
	for _, r := range []string{"r", "r16", "r17", "r20", "r99", "r00", "r01", "r015", "r-1", "r-0", "r+1", "R1", "1", "0", "x", "rr", "r1x", "r1.", "r 1", "rx", "sp", "r99999999999999999999", "r1\r", "-r1"} {
		fails(t, "pop "+r, 1, api.ErrForm)
		fails(t, "add r1 "+r, 1, api.ErrForm)
		fails(t, "store "+r+" r7 1", 1, api.ErrForm)
		fails(t, "store r7 "+r+" 1", 1, api.ErrForm)
		fails(t, "set "+r+" 1", 1, api.ErrForm)
		fails(t, "jz "+r+" x\nx:", 1, api.ErrForm)
	}
}

// P13.2: which words are numbers, and which of them are in range.
func TestNumbers(t *testing.T) {
	for op, r := range rows {
		if !slices.Contains(r.operands, "N") {
			continue
		}
		ahead, i := r.name, isa.Instr{Op: op}
		for _, operand := range r.operands[:len(r.operands)-1] {
			switch operand {
			case "A":
				ahead, i.A = ahead+" r4", 4
			case "B":
				ahead, i.B = ahead+" r5", 5
			case "P":
				ahead, i.B = ahead+" x", 1
			}
		}
		for _, n := range append([]int{r.least - 1, r.least, r.least + 1, r.most - 1, r.most, r.most + 1}, numbers...) {
			s := ahead + " " + strconv.Itoa(n) + "\nnop\nx:"
			if n < r.least || n > r.most {
				fails(t, s, 1, api.ErrRange)
				continue
			}
			i.N = n
			yields(t, s, append(words(t, i), 0)...)
		}
		for _, n := range []string{"-", "--1", "+1", "00", "01", "-0", "-01", "1-", "1.0", "1x", "x", "0x1", "1_0", "r1", "1e3", "\u0661", "99999999999999999999x", "-099999999999999999999"} {
			fails(t, ahead+" "+n+"\nnop\nx:", 1, api.ErrForm)
		}
		for _, n := range []string{"9223372036854775808", "-9223372036854775809", "18446744073709551617", "4294967297", "1" + strings.Repeat("0", 60000), "-1" + strings.Repeat("0", 300)} {
			fails(t, ahead+" "+n+"\nnop\nx:", 1, api.ErrRange)
		}
	}
}

// P13.2: names that are none, and operands too few and too many.
func TestNamesAndCounts(t *testing.T) {
	for _, name := range []string{"no", "nops", "Nop", "NOP", "ops", "0", "-", "r1", "x", "sets", "jmp", "halt", "addN", "setr1"} {
		for _, rest := range []string{"", " r1", " r1 5", " x", " r1 r2 5", " ! !"} {
			fails(t, name+rest, 1, api.ErrForm)
			fails(t, "nop\nx: "+name+rest, 2, api.ErrForm)
		}
	}
	good := map[string]string{"A": " r1", "B": " r2", "N": " 1", "P": " x"}
	for _, r := range rows {
		line := r.name
		for _, operand := range r.operands {
			fails(t, "x:\n"+line, 2, api.ErrForm)
			line += good[operand]
		}
		for _, more := range []string{" r1", " 1", " x", " ,", " nop", " x:"} {
			fails(t, "x:\n"+line+more, 2, api.ErrForm)
		}
		for k, operand := range r.operands {
			for kind, word := range good {
				if kind != operand && kind+operand != "AB" && kind+operand != "BA" && (operand != "P" || word == " 1") {
					w := strings.Fields(line)
					w[k+1] = word
					fails(t, "x:\n"+strings.Join(w, " "), 2, api.ErrForm)
				}
			}
		}
	}
	for _, s := range []string{"add r1,r2", "add r1, r2", "set r1 , 5", "set r1=5"} {
		fails(t, s, 1, api.ErrForm)
	}
}

// P13.2: the first error of a line, and the first line with one, count.
func TestFirstError(t *testing.T) {
	fails(t, "set r16 262144", 1, api.ErrForm)
	fails(t, "set r1 262144 1", 1, api.ErrForm)
	fails(t, "load r1 5 262144", 1, api.ErrForm)
	fails(t, "loop 1 0", 1, api.ErrForm)
	fails(t, "loop x 0", 1, api.ErrRange)
	fails(t, "loop x x", 1, api.ErrForm)
	fails(t, "trap -1\nnone", 1, api.ErrRange)
	fails(t, "nop\nshl r1 32\ntrap x", 2, api.ErrRange)
	fails(t, "nop\ntrap x\nshl r1 32", 2, api.ErrForm)
	// Errors of labels are examined when all lines have been read.
	fails(t, "jump none\n\n\nnop nop", 4, api.ErrForm)
	fails(t, "loop x 1\nx:\nset r1 262144", 3, api.ErrRange)
	fails(t, "loop x 1\nx:\nx:", 3, api.ErrTwice)
	fails(t, "jump none\nnop\njump either", 1, api.ErrName)
	fails(t, "nop\nloop x 1\nx:\njump none", 2, api.ErrRange)
	fails(t, "nop\n\njump none\nloop x 1\nx:", 3, api.ErrName)
	fails(t, "loop none 262144", 1, api.ErrRange)
}

// P13.2: labels that are not defined.
func TestUndefined(t *testing.T) {
	for _, s := range []string{"jump y", "jz r1 y", "jnz r1 y", "loop y 1", "call y", "z: jump Z", "jump y ;y:", "jump z1\nz:", "jump nop\nnop"} {
		fails(t, s, 1, api.ErrName)
		fails(t, "x: \n\n"+s+"\nnop", 3, api.ErrName)
	}
}

// P13.2: how far labels may be.
func TestFar(t *testing.T) {
	for n := 0; n <= 300; n++ {
		nops := strings.Repeat("nop\n", n)
		s := "loop x 1\n" + nops + "x: nop"
		if n < 1 || n > 255 {
			fails(t, s, 1, api.ErrRange)
			fails(t, "nop\n\n"+s, 3, api.ErrRange)
		} else {
			yields(t, s, append(words(t, isa.Instr{Op: isa.Loop, A: n / 16, B: n % 16, N: 1}), make([]uint32, n+1)...)...)
		}
		fails(t, "x: "+nops+"\nloop x 1", 2+n, api.ErrRange)
	}
	for _, n := range []int{0, 1, 300, 16000} {
		nops, none := strings.Repeat("nop\n", n), make([]uint32, n)
		yields(t, "x:\n"+nops+"jump x", append(none, words(t, isa.Instr{Op: isa.Jump, N: -n - 1})...)...)
		yields(t, "x:\n"+nops+"call x", append(none, words(t, isa.Instr{Op: isa.Call})...)...)
		yields(t, "jnz r1 x\n"+nops+"x:", append(words(t, isa.Instr{Op: isa.Jnz, A: 1, N: n}), none...)...)
		yields(t, "nop\ncall x\n"+nops+"x:", append(words(t, isa.Instr{}, isa.Instr{Op: isa.Call, N: n + 2}), none...)...)
	}
}

// P13.2: how long a text may be.
func TestLong(t *testing.T) {
	for _, s := range []string{strings.Repeat("nop\n", 16384), strings.Repeat("\n", 65536), strings.Repeat(" ", 65536), ";" + strings.Repeat("x", 65535), "set r1 5" + strings.Repeat(" ", 65528)} {
		code, line, e := isa.Assemble(s)
		if line != 0 || e != api.OK || len(code) != strings.Count(s, "nop")+strings.Count(s, "set") {
			t.Errorf("Assemble(%q) = %d words, %d, %d", short(s), len(code), line, e)
		}
		fails(t, s+" ", 0, api.ErrRange)
		fails(t, s+"\n", 0, api.ErrRange)
		fails(t, s+s, 0, api.ErrRange)
	}
	fails(t, "none\n"+strings.Repeat(" ", 65531), 1, api.ErrForm)
	fails(t, "none\n"+strings.Repeat(" ", 65532), 0, api.ErrRange)
	fails(t, strings.Repeat("\n", 65535)+"x", 65536, api.ErrForm)
	fails(t, strings.Repeat("x", 65536), 1, api.ErrForm)
	fails(t, strings.Repeat("x", 65537), 0, api.ErrRange)
}

// mixed returns lines of possible and impossible words; the fewer, the more of them are possible.
func mixed(dice *rand.Rand) string {
	wrong := []string{"", "", " ", "nop", "x", "x:", "r1", "r16", "5", "-0", "262144", ":", "1:", "\t", "!", "99999999999999999999"}
	one := func(l ...string) string {
		if dice.Intn(80) == 0 {
			return wrong[dice.Intn(len(wrong))]
		}
		return l[dice.Intn(len(l))]
	}
	label := func() string { return string(rune('a' + dice.Intn(4))) }
	s := ""
	for range dice.Intn(9) {
		for dice.Intn(4) == 0 {
			s += one(" ", "\n", ";\n", "; nop\n")
		}
		if dice.Intn(4) == 0 {
			s += one(label()+strconv.Itoa(dice.Intn(3))) + ":" + one(" ", "\n")
		}
		r := rows[dice.Intn(len(rows))]
		s += one(r.name)
		for _, operand := range r.operands {
			s += " " + map[string]string{
				"A": one("r0", "r15", "r8"), "B": one("r1", "r10"), "N": one("1", "1", "1", "7", "31", "32", "-1", "0", "262143"), "P": one(label() + strconv.Itoa(dice.Intn(3))),
			}[operand]
		}
		s += one("\n", "\n", " \n", " ; x\n")
	}
	return s
}

// P13.2: texts of all sorts, by the chapter's words.
func TestAgainstTheChapter(t *testing.T) {
	dice := rand.New(rand.NewSource(7))
	met := map[api.Errno]int{}
	for i := range 60000 {
		s := mixed(dice)
		if i%3 == 0 {
			b := []byte(s + "x:\n loop x 2\n")
			for range 1 + dice.Intn(3) {
				b[dice.Intn(len(b))] = " \n;:xr01-\x00\xff"[dice.Intn(11)]
			}
			s = string(b)
		}
		want, line, fault := slowAssemble(s)
		code, at, e := isa.Assemble(s)
		if !slices.Equal(code, want) || at != line || e != fault {
			t.Fatalf("Assemble(%q) = %x, %d, %d, want %x, %d, %d", s, code, at, e, want, line, fault)
		}
		met[e]++
	}
	for _, e := range []api.Errno{api.OK, api.ErrRange, api.ErrForm, api.ErrName, api.ErrTwice} {
		if met[e] < 300 {
			t.Errorf("the error %d was met only %d times", e, met[e])
		}
	}
}

// R4: two calls return two lists.
func TestNewWords(t *testing.T) {
	const s = "set r1 5\nnop"
	a, _, _ := isa.Assemble(s)
	a[0] = 7
	yields(t, s, 0x08800005, 0)
}
