package text_test

import (
	"math"
	"math/rand"
	"reflect"
	"strings"
	"testing"

	"monocoque/api"
	"monocoque/book"
	"monocoque/text"
)

// describes tells whether Parse of s returns m.
func describes(t *testing.T, s string, m book.Module) {
	t.Helper()
	if got, at, e := text.Parse(s); !book.Same(got, m) || at != (text.Place{}) || e != api.OK {
		t.Errorf("Parse(%q) = %v, %v, %d, want %v", s, got, at, e, m)
	}
}

// fails tells whether Parse of s returns that error at that place, and nothing else.
func fails(t *testing.T, s string, line, col int, want api.Errno) {
	t.Helper()
	if got, at, e := text.Parse(s); !book.Same(got, book.Module{}) || at != (text.Place{Line: line, Col: col}) || e != want {
		t.Errorf("Parse(%q) = %v, %v, %d, want the place %d, %d and the error %d", s, got, at, e, line, col, want)
	}
}

// prints tells whether Print of m returns s.
func prints(t *testing.T, m book.Module, s string) {
	t.Helper()
	if got, e := text.Print(m); got != s || e != api.OK {
		t.Errorf("Print(%v) = %q, %d, want %q", m, got, e, s)
	}
}

// The chapter's examples.
func TestExamples(t *testing.T) {
	m := book.Module{Name: "m", Partitions: []book.Partition{{
		Name: "p", Restarts: 1, Ports: []book.Port{{Name: "q", Out: true, Queue: true, Words: 4, Room: 8}},
	}}}
	describes(t, "module m 0\npartition p 1 0 0\nport q out queuing 4 8 0\n", m)
	m.Partitions[0].Areas = []book.Area{{Name: "a", From: 0, Words: 16, Write: true, Run: true}}
	describes(t, "module m 0\npartition p 1 0 0\nport q out queuing 4 8 0\narea a 0 16 wr", m)
	prints(t, m, "module m 0\npartition p 1 0 0\narea a 0 16 wr\nport q out queuing 4 8 0\n")
	fails(t, "modul m 0", 1, 1, api.ErrName)
}

// P7.1 and P7.2: a module that has all kinds of things.
func TestFullText(t *testing.T) {
	prints(t, full(), fullText)
	describes(t, fullText, full())
	describes(t, strings.TrimSuffix(fullText, "\n"), full())
	prints(t, book.Module{Name: "m"}, "module m 0\n")
	describes(t, "module m 0", book.Module{Name: "m"})
}

// P7.1 and P7.2: each word that stands for a bool or a number, in both directions.
func TestWords(t *testing.T) {
	for word, a := range map[string]book.Area{
		"-": {}, "w": {Write: true}, "r": {Run: true}, "k": {Keep: true}, "wr": {Write: true, Run: true}, "wk": {Write: true, Keep: true},
		"rk": {Run: true, Keep: true}, "wrk": {Write: true, Run: true, Keep: true},
	} {
		a.Name, a.Words = "a", 1
		m := book.Module{Name: "m", Partitions: []book.Partition{{Name: "p", Areas: []book.Area{a}}}}
		s := "module m 0\npartition p 0 0 0\narea a 0 1 " + word + "\n"
		prints(t, m, s)
		describes(t, s, m)
	}
	for level, l := range []string{"process", "part", "whole"} {
		for do, d := range []string{"ignore", "tell", "stop", "restart", "warm", "cold", "halt"} {
			rules := []book.Rule{{Error: 9, Level: level, Do: do}}
			m := book.Module{Name: "m", Partitions: []book.Partition{{Name: "p", Health: rules}}, Health: rules}
			s := "module m 0\npartition p 0 0 0\nrule 9 " + l + " " + d + "\nhealth 9 " + l + " " + d + "\n"
			prints(t, m, s)
			describes(t, s, m)
		}
	}
	for _, x := range []struct {
		word string
		n    int
	}{{"outside", book.Outside}, {"0", 0}, {"1", 1}, {"15", 15}} {
		m := book.Module{Name: "m", Channels: []book.Channel{{From: book.End{Partition: x.n, Port: 3}, To: []book.End{{Partition: x.n, Port: 4}}}}}
		s := "module m 0\nchannel " + x.word + " 3\nto " + x.word + " 4\n"
		prints(t, m, s)
		describes(t, s, m)
	}
}

// P7.1 to P7.3: modules of all sorts, up to the biggest one.
func TestThereAndBack(t *testing.T) {
	r := rand.New(rand.NewSource(7))
	modules := []book.Module{biggest()}
	for i := range 400 {
		modules = append(modules, random(r, i%7))
	}
	for _, m := range modules {
		if !m.Right() {
			t.Fatal("not right:", m)
		}
		want := slowPrint(m)
		s, e := text.Print(m)
		if s != want || e != api.OK {
			t.Fatalf("Print = %q, %d, want %q", s, e, want)
		}
		got, at, e := text.Parse(s)
		if !book.Same(got, m) || at != (text.Place{}) || e != api.OK {
			t.Fatalf("Parse(%q) = %v, %v, %d", s, got, at, e)
		}
	}
}

// P7.1: what is not right has no text: by a number, by a name, by a list.
func TestPrintOfWhatIsNotRight(t *testing.T) {
	fails := func(m book.Module, why string) {
		t.Helper()
		if s, e := text.Print(m); s != "" || e != api.ErrRange {
			t.Errorf("with another %s: %q, %d", why, s, e)
		}
	}
	fails(book.Module{}, "name")
	m := full()
	leaves(&m, func(path string, v reflect.Value) {
		kept := reflect.ValueOf(v.Interface())
		switch v.Kind() {
		case reflect.Int:
			b := bounds[plain(path)]
			for _, n := range []int{math.MinInt, b[0] - 1, b[1] + 1, 1<<40 + 1, math.MaxInt} {
				v.SetInt(int64(n))
				fails(m, path)
			}
		case reflect.String:
			for _, s := range []string{"", "a b", "A", "a#", "a\n", strings.Repeat("a", 31)} {
				v.SetString(s)
				fails(m, path)
			}
		}
		v.Set(kept)
	})
	lists(&m, func(path string, v reflect.Value) {
		kept := reflect.ValueOf(v.Interface())
		for v.Len() <= most[plain(path)] {
			v.Set(reflect.Append(v, v.Index(0)))
		}
		fails(m, path)
		v.Set(kept)
	})
	prints(t, m, fullText)
}

// P7.2: what the lines of a module's text have in common with others: any order that keeps to the last ones.
func TestOrderOfLines(t *testing.T) {
	m := book.Module{
		Name:       "m",
		Partitions: []book.Partition{{Name: "p", Events: []book.Event{{Name: "e"}, {Name: "f"}}, Locks: []book.Lock{{Name: "l", Ceiling: 1}}}, {Name: "q", Health: []book.Rule{{Error: 1, Do: 1}, {Error: 2, Do: 2}}}},
		Schedules:  []book.Schedule{{Name: "s", Frame: 5, Windows: []book.Window{{Length: 1}, {From: 2, Length: 2}}}, {Name: "t", Frame: 6, Windows: []book.Window{{From: 3, Length: 3}}}},
		Channels:   []book.Channel{{From: book.End{Partition: 1, Port: 2}, To: []book.End{{Partition: 3, Port: 4}, {Partition: 5, Port: 6}}}, {From: book.End{Partition: 7, Port: 8}, To: []book.End{{Partition: 9, Port: 10}}}},
		Links:      []book.Link{{Name: "k", Gap: 1}, {Name: "j", Gap: 2}},
		Health:     []book.Rule{{Error: 3}, {Error: 4}},
	}
	describes(t, `module m 0
link k 0 1
health 3 process ignore
schedule s 5
partition p 0 0 0
channel 1 2
event e
window 0 0 1
to 3 4
lock l 1
health 4 process ignore
event f
window 0 2 2
schedule t 6
to 5 6
partition q 0 0 0
rule 1 process tell
link j 0 2
channel 7 8
window 0 3 3
to 9 10
rule 2 process stop
`, m)
}

// P7.2: numbers at the bounds of what they may be, and of what is right.
func TestNumbers(t *testing.T) {
	describes(t, "module m 7", book.Module{Name: "m", Mode: 7})
	for word, want := range map[string]api.Errno{
		"0": api.OK, "7": api.OK, "8": api.ErrRange, "1048577": api.ErrRange, "1099511627775": api.ErrRange, "1099511627776": api.ErrRange,
	} {
		if _, at, e := text.Parse("module m " + word); e != want || at != (text.Place{}) {
			t.Errorf("with the number %s: %v, %d", word, at, e)
		}
	}
	// At its word, not at the zero place: these are beyond 2^40.
	for _, word := range []string{
		"1099511627777", "1099511627780", "1100000000000", "9999999999999", "10000000000000", "9223372036854775807", "9223372036854775808", "18446744073709551615", "18446744073709551616",
		"18446744073709551617", "18446744073709551623", "100000000000000000000000000", "1" + strings.Repeat("0", 5000), strings.Repeat("9", 300),
	} {
		fails(t, "module m "+word, 1, 10, api.ErrRange)
	}
	for _, word := range []string{
		"00", "01", "007", "0000000000000000000000000", "01099511627777", "-0", "-1", "+1", "1.0", "1e3", "0x1", "1_0", "a", "outside", "-", "1a", "a1", "7-", "١", "½", "1\r", "1\x00", "1,", "/", ":", "0/", "0:",
		"1099511627777x", strings.Repeat("9", 300) + "x", "x" + strings.Repeat("9", 300), "0" + strings.Repeat("9", 300),
	} {
		fails(t, "module m "+word, 1, 10, api.ErrForm)
	}
}

// P7.2: without a module, at the line after the last one.
func TestNoModule(t *testing.T) {
	for s, line := range map[string]int{
		"": 1, "\n": 2, " ": 2, "#": 2, "# module m 0": 2, "#\n": 2, "\n\n": 3, "\n ": 3, "\n\n\n": 4, " \t\n#x\n\t": 4, strings.Repeat("\n", 1000): 1001,
	} {
		fails(t, s, line, 1, api.ErrShort)
	}
}

// P7.2: the length of a text.
func TestLengthOfTexts(t *testing.T) {
	for _, s := range []string{"module m 0\n", fullText} {
		fill := strings.Repeat("x", 1<<18-len(s)-1)
		m, _, _ := text.Parse(s)
		describes(t, s+"#"+fill, m)
		describes(t, "\n"+s+strings.Repeat("\n", len(fill)), m)
		fails(t, s+"##"+fill, 0, 0, api.ErrRange)
		fails(t, s+strings.Repeat(" ", 1<<19), 0, 0, api.ErrRange)
	}
	fails(t, strings.Repeat("\n", 1<<18), 1<<18+1, 1, api.ErrShort)
	fails(t, strings.Repeat("\n", 1<<18+1), 0, 0, api.ErrRange)
	fails(t, strings.Repeat("x", 1<<18), 1, 1, api.ErrName)
	fails(t, strings.Repeat("x", 1<<18+1), 0, 0, api.ErrRange)
	fails(t, "modul m 0\n"+strings.Repeat(" ", 1<<18), 0, 0, api.ErrRange)
	fails(t, "module m "+strings.Repeat("1", 1<<18-9), 1, 10, api.ErrRange)
}

// P7.2: a module that is not right has no place, whatever it is that is not right; every line is looked at before.
func TestNotRight(t *testing.T) {
	times := func(n int, line string) string { return strings.Repeat(line+"\n", n) }
	for _, x := range []struct {
		before, line string
		most         int
	}{
		{"", "partition p 0 0 0", 16}, {"partition p 0 0 0\n", "area a 0 1 -", 16}, {"partition p 0 0 0\n", "task t 0 0 1 0 0 0 0", 16},
		{"partition p 0 0 0\n", "lock l 1", 16}, {"partition p 0 0 0\n", "sema s 0 1 fifo", 16}, {"partition p 0 0 0\n", "event e", 16},
		{"partition p 0 0 0\n", "board b 1", 16}, {"partition p 0 0 0\n", "buffer b 1 1 fifo", 16}, {"partition p 0 0 0\n", "port p in sampling 1 0 0", 16},
		{"partition p 0 0 0\n", "rule 1 process ignore", 32}, {"", "schedule s 1", 8}, {"schedule s 1\n", "window 0 0 1", 64},
		{"", "channel 0 0", 32}, {"channel 0 0\n", "to 0 0", 8}, {"", "link l 0 0", 32}, {"", "health 1 process ignore", 32},
	} {
		s := "module m 0\n" + x.before + times(x.most, x.line)
		if m, at, e := text.Parse(s); !m.Right() || at != (text.Place{}) || e != api.OK {
			t.Errorf("%d times %q: %v, %d", x.most, x.line, at, e)
		}
		s += x.line
		fails(t, s, 0, 0, api.ErrRange)
		fails(t, s+"\n"+times(100, x.line)+"none", strings.Count(s, "\n")+102, 1, api.ErrName)
	}
	fails(t, "module m 8\npartition p 0 0 0", 0, 0, api.ErrRange)
	fails(t, "module m 8\npartition p 0 0 ", 2, 16, api.ErrShort)
	fails(t, "module m 0\nchannel 16 0", 0, 0, api.ErrRange)
	fails(t, "module m 0\nchannel outside 16", 0, 0, api.ErrRange)
	fails(t, "module m 0\nwindow 0 0 0", 2, 1, api.ErrOrder)
	fails(t, "module m 0\nschedule s 1\nwindow 0 0 0", 0, 0, api.ErrRange)
	fails(t, "module m 0\nhealth 0 process ignore", 0, 0, api.ErrRange)
}

// P7.2: each number of a module's text, at its bounds and beyond them.
func TestNotRightByNumbers(t *testing.T) {
	m := full()
	leaves(&m, func(path string, v reflect.Value) {
		if v.Kind() != reflect.Int {
			return
		}
		kept := v.Int()
		b := bounds[plain(path)]
		for _, n := range []int{b[0], b[1], b[0] - 1, b[1] + 1, 1 << 40} {
			v.SetInt(int64(n))
			switch {
			case n == -1 && b[0] == 0: // no number
			case strings.HasSuffix(path, ".Level") && n > 2 || strings.HasSuffix(path, ".Do") && n > 6: // no words
			case n < b[0] && b[0] < 0:
			case m.Right():
				describes(t, slowPrint(m), m)
			default:
				fails(t, slowPrint(m), 0, 0, api.ErrRange)
			}
		}
		v.SetInt(kept)
	})
}

// R4 and P6.4: Print changes nothing, and modules of one text are independent.
func TestNothingIsShared(t *testing.T) {
	m := full()
	text.Print(m)
	if !reflect.DeepEqual(m, full()) {
		t.Error("Print changes its argument:", m)
	}
	a, _, _ := text.Parse(fullText)
	b, _, _ := text.Parse(fullText)
	lists(&a, func(_ string, v reflect.Value) {
		whole := v.Slice(0, v.Cap())
		for i := v.Len(); i < v.Cap(); i++ {
			whole.Index(i).SetZero()
		}
	})
	if !book.Same(a, full()) {
		t.Error("lists of one module share memory:", a)
	}
	spoil(&a)
	if !book.Same(b, full()) {
		t.Error("modules of one text share memory:", b)
	}
	// An element that is appended to one list does not reach into another one.
	for i := range b.Partitions {
		p := &b.Partitions[i]
		p.Events = append(p.Events, book.Event{Name: "x"}, book.Event{Name: "y"}, book.Event{Name: "z"})
		p.Events = p.Events[:2]
	}
	if !book.Same(b, full()) {
		t.Error("lists of one module share memory:", b)
	}
}
