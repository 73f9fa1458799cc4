package isa

import (
	"strconv"
	"strings"

	"monocoque/api"
)

// List returns a text of which Assemble makes the code.
func List(code []uint32) (string, api.Errno) {
	list, e := decodeAll(code)
	if e != api.OK {
		return "", e
	}
	labels, e := labelsOf(list)
	if e != api.OK {
		return "", e
	}
	var text strings.Builder
	for at := range len(list) + 1 {
		if label, ok := labels[at]; ok {
			text.WriteString(label + ":\n")
		}
		if at < len(list) {
			text.WriteString(list[at].text(labels, at) + "\n")
		}
	}
	return text.String(), api.OK
}

func decodeAll(code []uint32) ([]Instr, api.Errno) {
	var list []Instr
	for _, w := range code {
		i, e := Decode(w)
		if e != api.OK {
			return nil, e
		}
		list = append(list, i)
	}
	return list, api.OK
}

// labelsOf returns a label for each place for which that of an instruction stands.
func labelsOf(list []Instr) (map[int]string, api.Errno) {
	labels := map[int]string{}
	for at, i := range list {
		place, ok := i.goal(at)
		if !ok {
			continue
		}
		if place < 0 || place > len(list) {
			return nil, api.ErrRange
		}
		labels[place] = "L" + strconv.Itoa(place)
	}
	return labels, api.OK
}

// text returns the line of i, which is at a place.
func (i Instr) text(labels map[int]string, at int) string {
	line := operations[i.Op].name
	for _, kind := range []byte(operations[i.Op].operands) {
		line += " "
		switch kind {
		case operandA:
			line += "r" + strconv.Itoa(i.A)
		case operandB:
			line += "r" + strconv.Itoa(i.B)
		case operandN:
			line += strconv.Itoa(i.N)
		case operandL:
			place, _ := i.goal(at)
			line += labels[place]
		}
	}
	return line
}
