package isa

import (
	"strconv"
	"strings"

	"monocoque/api"
)

const (
	longestText  = 65536 // in bytes
	longestLabel = 30    // in bytes
)

// use is an operand that is a label, of the instruction at a place. The label may be defined later.
type use struct {
	line, at int
	label    string
}

// assembler is what is known of a text as far as it was read.
type assembler struct {
	code   []Instr // without the places of labels
	labels map[string]int
	uses   []use
}

// Assemble returns the words of the instructions of s, or the line of the first error and the error.
func Assemble(s string) (code []uint32, line int, e api.Errno) {
	if len(s) > longestText {
		return nil, 0, api.ErrRange
	}
	a := assembler{labels: map[string]int{}}
	for i, text := range strings.Split(s, "\n") {
		if e := a.read(text, i+1); e != api.OK {
			return nil, i + 1, e
		}
	}
	for _, u := range a.uses {
		if e := a.resolve(u); e != api.OK {
			return nil, u.line, e
		}
	}
	for _, i := range a.code {
		w, _ := Encode(i) // all are valid: their operands were held against their bounds
		code = append(code, w)
	}
	return code, 0, api.OK
}

// read reads a line of the text.
func (a *assembler) read(text string, line int) api.Errno {
	text, _, _ = strings.Cut(text, ";")
	// Not Fields, for which further bytes are blanks.
	words := strings.FieldsFunc(text, func(c rune) bool { return c == ' ' })
	if len(words) == 0 {
		return api.OK
	}
	if label, ok := strings.CutSuffix(words[0], ":"); ok {
		if e := a.define(label); e != api.OK {
			return e
		}
		words = words[1:]
	}
	if len(words) == 0 {
		return api.OK
	}
	return a.add(words[0], words[1:], line)
}

// define defines a label for the place of the next instruction.
func (a *assembler) define(label string) api.Errno {
	if !isLabel(label) {
		return api.ErrForm
	}
	if _, ok := a.labels[label]; ok {
		return api.ErrTwice
	}
	a.labels[label] = len(a.code)
	return api.OK
}

// add adds the instruction with a name and operands.
func (a *assembler) add(name string, words []string, line int) api.Errno {
	op := find(func(op int) bool { return operations[op].name == name })
	if op < 0 || len(words) != len(operations[op].operands) {
		return api.ErrForm
	}
	i := Instr{Op: op}
	for n, word := range words {
		kind := operations[op].operands[n]
		if e := i.operand(kind, word); e != api.OK {
			return e
		}
		if kind == operandL {
			a.uses = append(a.uses, use{line, len(a.code), word})
		}
	}
	a.code = append(a.code, i)
	return api.OK
}

// find returns the first operation with a property, or -1.
func find(is func(op int) bool) int {
	for op := range Ops {
		if is(op) {
			return op
		}
	}
	return -1
}

// operand sets the field of i for which a word stands. A label is not resolved yet.
func (i *Instr) operand(kind byte, word string) (e api.Errno) {
	switch kind {
	case operandA:
		i.A, e = register(word)
	case operandB:
		i.B, e = register(word)
	case operandN:
		i.N, e = number(word, operations[i.Op].least, operations[i.Op].most)
	case operandL:
		if !isLabel(word) {
			e = api.ErrForm
		}
	}
	return e
}

// register returns the register that a word is.
func register(word string) (int, api.Errno) {
	digits, ok := strings.CutPrefix(word, "r")
	if !ok {
		return 0, api.ErrForm
	}
	n, e := number(digits, 0, lastR)
	if e != api.OK {
		return 0, api.ErrForm
	}
	return n, api.OK
}

// number returns the number that a word is.
func number(word string, least, most int) (int, api.Errno) {
	if !isNumber(word) {
		return 0, api.ErrForm
	}
	// What Atoi does not take is a number beyond every int.
	n, err := strconv.Atoi(word)
	if err != nil || n < least || n > most {
		return 0, api.ErrRange
	}
	return n, api.OK
}

func isNumber(word string) bool {
	digits, negative := strings.CutPrefix(word, "-")
	for _, c := range []byte(digits) {
		if !isDigit(c) {
			return false
		}
	}
	if digits == "" {
		return false
	}
	return digits[0] != '0' || digits == "0" && !negative
}

func isLabel(word string) bool {
	if word == "" || len(word) > longestLabel || !isLetter(word[0]) {
		return false
	}
	for _, c := range []byte(word) {
		if !isLetter(c) && !isDigit(c) && c != '_' {
			return false
		}
	}
	return true
}

func isLetter(c byte) bool { return c >= 'a' && c <= 'z' || c >= 'A' && c <= 'Z' }

func isDigit(c byte) bool { return c >= '0' && c <= '9' }

// resolve makes the label of an instruction stand for its place.
func (a *assembler) resolve(u use) api.Errno {
	place, ok := a.labels[u.label]
	if !ok {
		return api.ErrName
	}
	i := a.code[u.at].aimed(u.at, place)
	if !i.valid() {
		return api.ErrRange
	}
	a.code[u.at] = i
	return api.OK
}
