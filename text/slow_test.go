package text_test

import (
	"math/big"
	"reflect"
	"regexp"
	"slices"
	"strconv"
	"strings"

	"monocoque/api"
	"monocoque/book"
	"monocoque/text"
)

// A shape is what the chapter's table tells of a kind: where its things are, and its words.
type shape struct {
	list  []string // the names of the lists that lead there
	words []spell
}

// A spell is one word of a line: the fields that it tells of, and what kind of word it is.
type spell struct {
	fields []string
	sort   string
}

// table is the chapter's table.
const table = `
module - Name:name Mode:number
partition Partitions Name:name Restarts:number Budget.Size:number Budget.Period:number
area Partitions.Areas Name:name From:number Words:number Write,Run,Keep:rights
task Partitions.Tasks Name:name Entry:number Stack:number Priority:number Period:number Capacity:number Deadline:number Offset:number
lock Partitions.Locks Name:name Ceiling:number
sema Partitions.Semas Name:name First:number Most:number ByPriority:order
event Partitions.Events Name:name
board Partitions.Boards Name:name Words:number
buffer Partitions.Buffers Name:name Words:number Room:number ByPriority:order
port Partitions.Ports Name:name Out:way Queue:sort Words:number Room:number Refresh:number
rule Partitions.Health Error:number Level:level Do:action
schedule Schedules Name:name Frame:number
window Schedules.Windows Partition:number From:number Length:number
channel Channels From.Partition:end From.Port:number
to Channels.To Partition:end Port:number
link Links Name:name Channel:number Gap:number
health Health Error:number Level:level Do:action`

// kindsInOrder are all kinds, each ahead of those whose things belong to its own.
var kindsInOrder, shapes = read(table)

func read(table string) (kinds []string, all map[string]shape) {
	all = map[string]shape{}
	for _, line := range strings.Split(table, "\n")[1:] {
		words := strings.Fields(line)
		s := shape{}
		if words[1] != "-" {
			s.list = strings.Split(words[1], ".")
		}
		for _, w := range words[2:] {
			fields, sort, _ := strings.Cut(w, ":")
			s.words = append(s.words, spell{strings.Split(fields, ","), sort})
		}
		kinds = append(kinds, words[0])
		all[words[0]] = s
	}
	return kinds, all
}

// choices are the words of those sorts that have only some.
var choices = map[string][]string{
	"order":  {"fifo", "priority"},
	"way":    {"in", "out"},
	"sort":   {"sampling", "queuing"},
	"level":  {"process", "part", "whole"},
	"action": {"ignore", "tell", "stop", "restart", "warm", "cold", "halt"},
}

var (
	isName   = regexp.MustCompile(`^[a-z][a-z0-9_]{0,29}$`)
	isNumber = regexp.MustCompile(`^(0|[1-9][0-9]*)$`)
	isRights = regexp.MustCompile(`^(-|w?r?k?)$`)
	aWord    = regexp.MustCompile("[^ \t]+")
)

// at returns the field of a thing that a path leads to.
func at(thing reflect.Value, path string) reflect.Value {
	for _, f := range strings.Split(path, ".") {
		thing = thing.FieldByName(f)
	}
	return thing
}

// slowTake sets the fields of a thing by a word.
func (s spell) slowTake(thing reflect.Value, word string) api.Errno {
	v := at(thing, s.fields[0])
	switch s.sort {
	case "name":
		if !isName.MatchString(word) {
			return api.ErrName
		}
		v.SetString(word)
	case "number", "end":
		if s.sort == "end" && word == "outside" {
			v.SetInt(-1)
			return api.OK
		}
		if !isNumber.MatchString(word) {
			return api.ErrForm
		}
		n, _ := new(big.Int).SetString(word, 10)
		if n.Cmp(big.NewInt(1<<40)) > 0 {
			return api.ErrRange
		}
		v.SetInt(n.Int64())
	case "rights":
		if !isRights.MatchString(word) {
			return api.ErrForm
		}
		for i, f := range s.fields {
			at(thing, f).SetBool(strings.Contains(word, "wrk"[i:i+1]))
		}
	default:
		n := slices.Index(choices[s.sort], word)
		if n < 0 {
			return api.ErrForm
		}
		if v.Kind() == reflect.Bool {
			v.SetBool(n == 1)
		} else {
			v.SetInt(int64(n))
		}
	}
	return api.OK
}

// slowTell returns the word for the fields of a thing.
func (s spell) slowTell(thing reflect.Value) string {
	v := at(thing, s.fields[0])
	switch {
	case s.sort == "rights":
		word := ""
		for i, f := range s.fields {
			if at(thing, f).Bool() {
				word += "wrk"[i : i+1]
			}
		}
		if word == "" {
			return "-"
		}
		return word
	case s.sort == "end" && v.Int() == -1:
		return "outside"
	case v.Kind() == reflect.String:
		return v.String()
	case v.Kind() == reflect.Bool && v.Bool():
		return choices[s.sort][1]
	case v.Kind() == reflect.Bool:
		return choices[s.sort][0]
	case choices[s.sort] != nil:
		return choices[s.sort][v.Int()]
	}
	return strconv.FormatInt(v.Int(), 10)
}

// slowPrint is Print by the chapter's words, of what is right.
func slowPrint(m book.Module) string {
	var b strings.Builder
	slowLine(&b, "module", reflect.ValueOf(m))
	slowThings(&b, nil, reflect.ValueOf(m))
	return b.String()
}

func slowLine(b *strings.Builder, kind string, thing reflect.Value) {
	b.WriteString(kind)
	for _, s := range shapes[kind].words {
		b.WriteString(" " + s.slowTell(thing))
	}
	b.WriteString("\n")
}

// slowThings prints all that belongs to a thing, which is an element of the list that the names lead to.
func slowThings(b *strings.Builder, list []string, thing reflect.Value) {
	for _, kind := range kindsInOrder {
		l := shapes[kind].list
		if len(l) != len(list)+1 || !slices.Equal(l[:len(list)], list) {
			continue
		}
		things := thing.FieldByName(l[len(list)])
		for i := range things.Len() {
			slowLine(b, kind, things.Index(i))
			slowThings(b, l, things.Index(i))
		}
	}
}

// slowParse is Parse by the chapter's words.
func slowParse(s string) (book.Module, text.Place, api.Errno) {
	var none book.Module
	if len(s) > 1<<18 {
		return none, text.Place{}, api.ErrRange
	}
	lines := strings.Split(s, "\n")
	if lines[len(lines)-1] == "" {
		lines = lines[:len(lines)-1]
	}
	var m book.Module
	there := false
	for i, line := range lines {
		line, _, _ = strings.Cut(line, "#")
		found := aWord.FindAllStringIndex(line, -1)
		if len(found) == 0 {
			continue
		}
		if col, e := slowParseLine(&m, &there, line, found); e != api.OK {
			return none, text.Place{Line: i + 1, Col: col}, e
		}
	}
	if !there {
		return none, text.Place{Line: len(lines) + 1, Col: 1}, api.ErrShort
	}
	if !m.Right() {
		return none, text.Place{}, api.ErrRange
	}
	return m, text.Place{}, api.OK
}

func slowParseLine(m *book.Module, there *bool, line string, found [][]int) (int, api.Errno) {
	kind := line[found[0][0]:found[0][1]]
	s, ok := shapes[kind]
	if !ok {
		return found[0][0] + 1, api.ErrName
	}
	if kind == "module" && *there {
		return found[0][0] + 1, api.ErrTwice
	}
	if kind != "module" && !*there {
		return found[0][0] + 1, api.ErrOrder
	}
	*there = true
	thing := reflect.ValueOf(m).Elem()
	for i, name := range s.list {
		l := thing.FieldByName(name)
		if i == len(s.list)-1 {
			l.Set(reflect.Append(l, reflect.Zero(l.Type().Elem())))
		}
		if l.Len() == 0 {
			return found[0][0] + 1, api.ErrOrder
		}
		thing = l.Index(l.Len() - 1)
	}
	for i, w := range s.words {
		if i+1 >= len(found) {
			return found[len(found)-1][1] + 1, api.ErrShort
		}
		if e := w.slowTake(thing, line[found[i+1][0]:found[i+1][1]]); e != api.OK {
			return found[i+1][0] + 1, e
		}
	}
	if n := len(s.words) + 1; len(found) > n {
		return found[n][0] + 1, api.ErrForm
	}
	return 0, api.OK
}
