package isa_test

import (
	"math/big"
	"regexp"
	"slices"
	"strconv"
	"strings"

	"monocoque/api"
	"monocoque/isa"
)

var (
	isLabel    = regexp.MustCompile(`^[a-zA-Z][a-zA-Z0-9_]{0,29}$`)
	isNumber   = regexp.MustCompile(`^(0|-?[1-9][0-9]*)$`)
	isRegister = regexp.MustCompile(`^r([0-9]|1[0-5])$`)
	comment    = regexp.MustCompile(`(?s);.*`)
	blanks     = regexp.MustCompile(` +`)
)

// slowAssemble is what the chapter says of Assemble, word by word.
func slowAssemble(s string) ([]uint32, int, api.Errno) {
	if len(s) > 65536 {
		return nil, 0, api.ErrRange
	}
	var list []isa.Instr
	var lines []int // of each instruction
	var wanted []string
	labels := map[string]int{}
	for i, line := range strings.Split(s, "\n") {
		w := strings.Split(strings.Trim(blanks.ReplaceAllString(comment.ReplaceAllString(line, ""), " "), " "), " ")
		if strings.HasSuffix(w[0], ":") {
			label := w[0][:len(w[0])-1]
			if !isLabel.MatchString(label) {
				return nil, i + 1, api.ErrForm
			}
			if _, ok := labels[label]; ok {
				return nil, i + 1, api.ErrTwice
			}
			labels[label] = len(list)
			w = w[1:]
		}
		if len(w) == 0 || len(w) == 1 && w[0] == "" {
			continue
		}
		instr, label, e := slowInstr(w[0], w[1:])
		if e != api.OK {
			return nil, i + 1, e
		}
		list, lines, wanted = append(list, instr), append(lines, i+1), append(wanted, label)
	}
	var code []uint32
	for at, i := range list {
		e := slowResolve(&i, at, wanted[at], labels)
		if e != api.OK {
			return nil, lines[at], e
		}
		code = append(code, wordOf(i))
	}
	return code, 0, api.OK
}

func slowInstr(name string, w []string) (i isa.Instr, label string, e api.Errno) {
	i.Op = slices.IndexFunc(rows, func(r row) bool { return r.name == name })
	if i.Op < 0 || len(w) != len(rows[i.Op].operands) {
		return i, "", api.ErrForm
	}
	for k, operand := range rows[i.Op].operands {
		var fits *regexp.Regexp
		switch operand {
		case "A", "B":
			fits = isRegister
		case "N":
			fits = isNumber
		case "P":
			fits = isLabel
		}
		if !fits.MatchString(w[k]) {
			return i, "", api.ErrForm
		}
		switch operand {
		case "A":
			i.A, _ = strconv.Atoi(w[k][1:])
		case "B":
			i.B, _ = strconv.Atoi(w[k][1:])
		case "N":
			n, _ := new(big.Int).SetString(w[k], 10)
			if !n.IsInt64() || n.Int64() < int64(rows[i.Op].least) || n.Int64() > int64(rows[i.Op].most) {
				return i, "", api.ErrRange
			}
			i.N = int(n.Int64())
		case "P":
			label = w[k]
		}
	}
	return i, label, api.OK
}

func slowResolve(i *isa.Instr, at int, label string, labels map[string]int) api.Errno {
	if label == "" {
		return api.OK
	}
	place, ok := labels[label]
	if !ok {
		return api.ErrName
	}
	n := place - (at + 1)
	switch rows[i.Op].name {
	case "call":
		i.N = place
	case "loop":
		if n < 1 || n > 255 {
			return api.ErrRange
		}
		i.A, i.B = n/16, n%16
	default:
		i.N = n
	}
	return api.OK
}

// slowList is what the chapter says of List.
func slowList(code []uint32) (string, api.Errno) {
	var list []isa.Instr
	for _, w := range code {
		i, e := isa.Decode(w)
		if e != api.OK {
			return "", e
		}
		list = append(list, i)
	}
	used := map[int]bool{}
	for at, i := range list {
		if place, ok := placeOf(i, at); ok {
			if place < 0 || place > len(list) {
				return "", api.ErrRange
			}
			used[place] = true
		}
	}
	s := ""
	for at := 0; at <= len(list); at++ {
		if used[at] {
			s += "L" + strconv.Itoa(at) + ":\n"
		}
		if at < len(list) {
			s += slowLine(list[at], at) + "\n"
		}
	}
	return s, api.OK
}

func slowLine(i isa.Instr, at int) string {
	place, _ := placeOf(i, at)
	w := []string{rows[i.Op].name}
	for _, operand := range rows[i.Op].operands {
		w = append(w, map[string]string{"A": "r" + strconv.Itoa(i.A), "B": "r" + strconv.Itoa(i.B), "N": strconv.Itoa(i.N), "P": "L" + strconv.Itoa(place)}[operand])
	}
	return strings.Join(w, " ")
}
