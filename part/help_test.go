package part_test

import (
	"fmt"
	"slices"
	"strings"
	"testing"

	"monocoque/api"
	"monocoque/book"
	"monocoque/calls"
	"monocoque/health"
	"monocoque/image"
	"monocoque/isa"
	"monocoque/part"
	"monocoque/proc"
	"monocoque/space"
)

// The places of the areas of a partition.
const (
	codeAt  = 0
	dataAt  = 1000 // is written
	keepAt  = 2000 // is written and kept
	fixedAt = 3000 // is not written
	stackAt = 4000
)

const apart = 60 // how far one process's code is from that of another one

// of returns a partition, which can be made.
func of(t *testing.T, c part.Config) *part.Part {
	t.Helper()
	p, e := part.New(c)
	if e != api.OK || p == nil {
		t.Fatalf("New(%v) = %v, %d", c, p, e)
	}
	return p
}

// begun returns a partition whose first window begins at a tick.
func begun(t *testing.T, c part.Config, now int) *part.Part {
	t.Helper()
	p := of(t, c)
	p.Begin(now)
	return p
}

// assemble returns the words of a text.
func assemble(t *testing.T, s string) []uint32 {
	t.Helper()
	code, line, e := isa.Assemble(s)
	if e != api.OK {
		t.Fatalf("Assemble(%q) = %d, %d", s, line, e)
	}
	return code
}

// world returns a Config with a process for each of these texts, of the priority 5 and without bounds; the words of the
// data are 1, 2, 3, 4 and nothing, of what is kept 5 and nothing, and of what is fixed 7, 8 and nothing.
func world(t *testing.T, codes ...string) part.Config {
	t.Helper()
	c := part.Config{Restarts: 9, Areas: []space.Area{
		{From: codeAt, Words: 960, Run: true},
		{From: dataAt, Words: 64, Write: true},
		{From: keepAt, Words: 4, Write: true, Keep: true},
		{From: fixedAt, Words: 4},
		{From: stackAt, Words: 32, Write: true},
	}}
	for i, s := range codes {
		at := codeAt + i*apart
		c.Image.Sections = append(c.Image.Sections, image.Section{At: at, Words: assemble(t, s)})
		c.Image.Entries = append(c.Image.Entries, at)
		c.Tasks = append(c.Tasks, part.Task{Attr: proc.Attr{Priority: 5}, Entry: i, Floor: stackAt + 2*i, Top: stackAt + 2*i + 2})
	}
	c.Image.Sections = append(c.Image.Sections,
		image.Section{At: dataAt, Words: []uint32{1, 2, 3, 4}},
		image.Section{At: keepAt, Words: []uint32{5}},
		image.Section{At: fixedAt, Words: []uint32{7, 8}})
	return c
}

// priorities gives the processes of a Config their priorities.
func priorities(c part.Config, l ...int) part.Config {
	for i, n := range l {
		c.Tasks[i].Attr.Priority = n
	}
	return c
}

// lines joins the lines of a code.
func lines(l ...string) string { return strings.Join(l, "\n") + "\n" }

// ask returns the lines of a call with its fields, which take 5 ticks, and its price.
func ask(call int, fields ...int) string {
	s := ""
	for i, n := range fields {
		s += fmt.Sprintf("set r%d %d\n", i, n)
	}
	return s + fmt.Sprintf("trap %d", call)
}

// forever is code that is never done.
const forever = "forever: jump forever"

// after returns what happens in n ticks from a tick on, without the ticks in which nothing but an instruction is done.
func after(p *part.Part, now, n int) string {
	var l []string
	for range n {
		if s := told(p.Step(now)); s != "" {
			l = append(l, fmt.Sprintf("%d %s", now, s))
		}
		now++
	}
	return strings.Join(l, "; ")
}

// told returns the text of a Report: each fault by an exclamation mark, process, error and action, then process, call
// and answer, then words, and the mode unless it is Normal.
func told(r part.Report) string {
	var l []string
	for _, f := range r.Faults {
		l = append(l, fmt.Sprintf("!%d %d %d", f.Process, f.E, f.Do))
	}
	if r.Call >= 0 {
		s := calls.Word(r.Call)
		if s == "" {
			s = fmt.Sprint(r.Call)
		}
		l = append(l, fmt.Sprintf("%d %s %d", r.Ran, s, r.E))
	}
	if len(r.Words) > 0 {
		l = append(l, fmt.Sprint(r.Words))
	}
	if r.Mode != 3 {
		l = append(l, fmt.Sprintf("mode %d", r.Mode))
	}
	return strings.Join(l, " ")
}

// happens tells whether this happens in n ticks from a tick on.
func happens(t *testing.T, p *part.Part, now, n int, want ...string) {
	t.Helper()
	if got, want := after(p, now, n), strings.Join(want, "; "); got != want {
		t.Errorf("from %d on, it happens\n%s\nand should\n%s", now, got, want)
	}
}

// runs tells whether these processes run in the ticks from a tick on.
func runs(t *testing.T, p *part.Part, now int, want ...int) {
	t.Helper()
	var got []int
	for i := range want {
		got = append(got, p.Step(now+i).Ran)
	}
	if !slices.Equal(got, want) {
		t.Errorf("from %d on, %v run, want %v", now, got, want)
	}
}

// states tells in which states the processes are.
func states(t *testing.T, p *part.Part, want ...int) {
	t.Helper()
	if got := p.View().States; !slices.Equal(got, want) {
		t.Errorf("the states are %v, want %v", got, want)
	}
}

// answered tells the error, the value and the number of words in the registers of a process.
func answered(t *testing.T, p *part.Part, i int, want ...uint32) {
	t.Helper()
	if r := p.View().Regs[i]; !slices.Equal(r[:len(want)], want) {
		t.Errorf("the process %d is answered %v, want %v", i, r[:len(want)], want)
	}
}

// word returns the word at a place.
func word(t *testing.T, c part.Config, p *part.Part, at int) uint32 {
	t.Helper()
	before := 0
	for _, a := range c.Areas {
		if at >= a.From && at < a.From+a.Words {
			return p.View().Words[before+at-a.From]
		}
		before += a.Words
	}
	t.Fatalf("the place %d has no word", at)
	return 0
}

// isAt tells which words are from a place on.
func isAt(t *testing.T, c part.Config, p *part.Part, at int, want ...uint32) {
	t.Helper()
	var got []uint32
	for i := range want {
		got = append(got, word(t, c, p, at+i))
	}
	if !slices.Equal(got, want) {
		t.Errorf("from %d on there is %v, want %v", at, got, want)
	}
}

// onError returns a Config with a rule for an error of a process, or of the partition.
func onError(c part.Config, e api.Errno, do int) part.Config {
	level := book.LevelProcess
	if do >= book.WarmStart {
		level = book.LevelPart
	}
	c.Rules = append(slices.Clip(c.Rules), health.Rule{Error: e, Level: level, Do: do})
	return c
}

// ends tells which messages leave the partition.
func ends(t *testing.T, p *part.Part, now int, want ...part.Message) {
	t.Helper()
	if got := p.End(now); !sameMessages(got, want) {
		t.Errorf("End(%d) is %v, want %v", now, got, want)
	}
}

// takes tells what In answers.
func takes(t *testing.T, p *part.Part, now int, m part.Message, want api.Errno) {
	t.Helper()
	if got := p.In(now, m); got != want {
		t.Errorf("In(%d, %v) is %d, want %d", now, m, got, want)
	}
}

func message(port int, words ...uint32) part.Message { return part.Message{Port: port, Words: words} }
