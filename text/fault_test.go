package text_test

import (
	"math/rand"
	"strconv"
	"strings"
	"testing"

	"monocoque/api"
	"monocoque/book"
	"monocoque/text"
)

// wrong are words that are not possible, by what kind of word should be there, with their errors.
var wrong = map[string]map[string]api.Errno{
	"name": errors(api.ErrName, "A", "1a", "_a", "a-b", "aB", "a.", "0", "7", "-", "ä", "aä", "a\r", "\x00", "a\xff", strings.Repeat("a", 31), strings.Repeat("a", 3000)),
	"number": merged(
		errors(api.ErrForm, "a", "-1", "+1", "00", "01", "1a", "1.0", "outside", "-", "\x00", "1\r", "01099511627777", "1099511627777a"),
		errors(api.ErrRange, "1099511627777", "18446744073709551616", "1"+strings.Repeat("0", 300))),
	"end": merged(
		errors(api.ErrForm, "a", "-1", "00", "01", "Outside", "outsid", "outsidee", "OUTSIDE", "inside", "-", "outside\r"),
		errors(api.ErrRange, "1099511627777", "18446744073709551615")),
	"rights": errors(api.ErrForm, "rw", "kr", "kw", "ww", "rr", "kk", "w-", "-w", "--", "wrkk", "wwrk", "wkr", "rwk", "krw", "x", "wx", "xw", "W", "wrkx", "0", "w\r", "none"),
	"order":  errors(api.ErrForm, "Fifo", "fif", "fifoo", "prio", "prioritys", "0", "1", "true", "fifo,", "in", "-"),
	"way":    errors(api.ErrForm, "In", "inn", "i", "output", "ou", "0", "1", "source", "fifo", "outside", "-"),
	"sort":   errors(api.ErrForm, "Sampling", "sample", "samplings", "queueing", "queue", "0", "1", "in", "-"),
	"level":  errors(api.ErrForm, "Process", "proces", "processes", "partition", "module", "wholes", "0", "1", "2", "ignore", "-"),
	"action": errors(api.ErrForm, "Ignore", "none", "tells", "stopp", "start", "warmstart", "colds", "halts", "0", "4", "6", "process", "-"),
}

func errors(e api.Errno, words ...string) map[string]api.Errno {
	all := map[string]api.Errno{}
	for _, w := range words {
		all[w] = e
	}
	return all
}

func merged(a, b map[string]api.Errno) map[string]api.Errno {
	for w, e := range b {
		a[w] = e
	}
	return a
}

// lines shows each line of fullText to f, by its words, with the number of lines ahead of it, and with what is ahead of it and behind it.
func lines(f func(words []string, n int, before, after string)) {
	all := strings.SplitAfter(fullText, "\n")
	for i, line := range all[:len(all)-1] {
		f(strings.Fields(line), i, strings.Join(all[:i], ""), strings.Join(all[i+1:], ""))
	}
}

// joined joins words by single blanks; place is the column of the given one, or that behind the last one.
func joined(words []string, n int) (line string, col int) {
	line = strings.Join(words, " ")
	if n < len(words) {
		return line, len(strings.Join(words[:n], " ")) + 2
	}
	return line, len(line) + 1
}

// P7.2: each word of each line, with each of the words that can't be there.
func TestWrongWords(t *testing.T) {
	lines(func(words []string, n int, before, after string) {
		for i, w := range shapes[words[0]].words {
			if wrong[w.sort] == nil {
				t.Fatal("no wrong words for", w.sort)
			}
			for word, e := range wrong[w.sort] {
				l := append([]string{}, words...)
				l[i+1] = word
				line, col := joined(l, i+1)
				fails(t, before+line+"\n"+after, n+1, col, e)
				fails(t, before+line, n+1, col, e)
				fails(t, before+"\t "+line+" # none", n+1, col+2, e)
			}
		}
	})
}

// P7.2: the first wrong word of a line counts, not a later one, nor one that lacks or is too many.
func TestFirstWrongWord(t *testing.T) {
	lines(func(words []string, n int, before, after string) {
		for i := 1; i < len(words); i++ {
			l := append([]string{}, words[:i]...)
			for range len(words) - i {
				l = append(l, "!")
			}
			e := api.ErrForm
			if shapes[words[0]].words[i-1].sort == "name" {
				e = api.ErrName
			}
			line, col := joined(l, i)
			fails(t, before+line+"\n"+after, n+1, col, e)
			fails(t, before+line+" ! !\nnone\n"+after, n+1, col, e)
			line, col = joined(l[:i+1], i)
			fails(t, before+line+"\n"+after, n+1, col, e)
		}
	})
}

// P7.2: each line without its last words.
func TestMissingWords(t *testing.T) {
	lines(func(words []string, n int, before, after string) {
		for i := 1; i < len(words); i++ {
			line, col := joined(words[:i], i)
			for _, rest := range []string{"", " ", "\t \t", "#", " # " + words[i], "  \t#", "# 0 0 0 0"} {
				fails(t, before+line+rest+"\n"+after, n+1, col, api.ErrShort)
				fails(t, before+line+rest, n+1, col, api.ErrShort)
			}
			fails(t, before+" \t"+line+"\n"+after, n+1, col+2, api.ErrShort)
			fails(t, before+line+" \n"+words[i]+"\n"+after, n+1, col, api.ErrShort)
		}
	})
}

// P7.2: each line with words too many.
func TestWordsTooMany(t *testing.T) {
	lines(func(words []string, n int, before, after string) {
		for _, more := range []string{"0", "a", "!", "-", "module", words[0], words[len(words)-1], "x y", "0 #", "\r", "\x00"} {
			line, col := joined(words, len(words))
			fails(t, before+line+" "+more+"\n"+after, n+1, col+1, api.ErrForm)
			fails(t, before+line+"\t  "+more, n+1, col+3, api.ErrForm)
		}
	})
}

// P7.2: no such kind, wherever it is, and whatever follows.
func TestUnknownKinds(t *testing.T) {
	for _, kind := range []string{
		"modul", "modules", "Module", "MODULE", "partitions", "Area", "tas", "rules", "window,", "tо", "link\r", "priority", "budget", "restarts", "end", "x", "0", "-", "\x00", "\xff", "module=m", "é", strings.Repeat("module", 1000),
	} {
		for _, rest := range []string{"", " m 0", " ! ! !", " # x"} {
			fails(t, kind+rest, 1, 1, api.ErrName)
			fails(t, "module m 0\n\n \t"+kind+rest+"\n", 3, 3, api.ErrName)
			fails(t, "module m 0\n"+kind+rest+"\nmodule m 0", 2, 1, api.ErrName)
		}
	}
}

// P7.2: a second module, whatever its words are.
func TestTwoModules(t *testing.T) {
	for _, line := range []string{"module", "module m 0", "module n 1", "module ! !", "module m 0 0", "module # n"} {
		fails(t, "module m 0\n"+line, 2, 1, api.ErrTwice)
		fails(t, fullText+"#\n  "+line+"\nmodul", strings.Count(fullText, "\n")+2, 3, api.ErrTwice)
		fails(t, "module m 9\n"+line, 2, 1, api.ErrTwice)
	}
	fails(t, "module m\nmodule m 0", 1, 9, api.ErrShort)
}

// P7.2: other kinds ahead of the module, whatever their words are.
func TestAheadOfTheModule(t *testing.T) {
	lines(func(words []string, _ int, _, _ string) {
		if words[0] == "module" {
			return
		}
		for _, line := range []string{strings.Join(words, " "), words[0], words[0] + " ! ! !", strings.Join(words, " ") + " x"} {
			fails(t, line, 1, 1, api.ErrOrder)
			fails(t, "\n\t"+line+"\nmodule m 0\n", 2, 2, api.ErrOrder)
		}
	})
}

// P7.2: things of what there is none of; there is one of the others.
func TestThingsOfNothing(t *testing.T) {
	of := map[string]string{"partition": "partition p 0 0 0\n", "schedule": "schedule s 1\n", "channel": "channel 0 0\n"}
	lines(func(words []string, _ int, _, _ string) {
		list := shapes[words[0]].list
		if len(list) < 2 {
			return
		}
		others, own := "module m 0\nlink l 0 0\nhealth 1 part tell\n", ""
		for kind, line := range of {
			if list[0] == shapes[kind].list[0] {
				own = line
			} else {
				others += line
			}
		}
		for _, line := range []string{strings.Join(words, " "), words[0], words[0] + " ! ! !", strings.Join(words, " ") + " x"} {
			fails(t, "module m 0\n "+line+"\n"+own, 2, 2, api.ErrOrder)
			fails(t, others+line+"\n"+own, 6, 1, api.ErrOrder)
		}
		if _, at, e := text.Parse(others + own + strings.Join(words, " ")); e != api.OK {
			t.Error("there is one for", words, at, e)
		}
	})
}

// P7.2: of several lines with errors the first one counts, whatever the errors are.
func TestFirstWrongLine(t *testing.T) {
	faults := []struct {
		line string
		col  int
		e    api.Errno
	}{
		{"x", 1, api.ErrName}, {"module m 0", 1, api.ErrTwice}, {"window 0 0 1", 1, api.ErrOrder}, {"link l", 7, api.ErrShort},
		{"link L 0 0", 6, api.ErrName}, {"link l 00 0", 8, api.ErrForm}, {"link l 1099511627777 0", 8, api.ErrRange}, {"link l 0 0 0", 12, api.ErrForm},
	}
	for _, a := range faults {
		for _, b := range faults {
			fails(t, "module m 8\n"+a.line+"\n"+b.line+"\n", 2, a.col, a.e)
		}
	}
}

// P7.3: blanks, tabs, comments and lines without words change nothing, wherever they are.
func TestBlanksAndComments(t *testing.T) {
	r := rand.New(rand.NewSource(3))
	blanks := func(least int) string {
		s := strings.Repeat(" ", least*r.Intn(2))
		for len(s) < least || r.Intn(3) == 0 {
			s += " \t"[r.Intn(2):][:1]
		}
		return s
	}
	rest := func() string {
		return blanks(0) + []string{"", "#", "# module x 0", "##", "#\x00\xff ä \r", "#" + blanks(0)}[r.Intn(6)]
	}
	for range 300 {
		s := ""
		lines(func(words []string, _ int, _, _ string) {
			for r.Intn(4) == 0 {
				s += rest() + "\n"
			}
			s += blanks(0) + words[0]
			for _, w := range words[1:] {
				s += blanks(1) + w
			}
			s += rest() + "\n"
		})
		describes(t, s+rest(), full())
		describes(t, strings.TrimSuffix(s, "\n"), full())
	}
	describes(t, "\tmodule\t\tm \t 0\t#", book.Module{Name: "m"})
	describes(t, "#\n\n \nmodule m 0#x", book.Module{Name: "m"})
	describes(t, "module m 0\n# a line that is not ended", book.Module{Name: "m"})
}

// P7.2: no other byte separates words, ends a line or begins a comment.
func TestOtherBytes(t *testing.T) {
	for c := range 256 {
		b := string([]byte{byte(c)})
		if strings.Contains(" \t\n#", b) {
			continue
		}
		fails(t, b+"module m 0", 1, 1, api.ErrName)
		fails(t, "module"+b+"m 0", 1, 1, api.ErrName)
		if !isName.MatchString("m" + b + "0") {
			fails(t, "module m"+b+"0", 1, 8, api.ErrName)
		}
		if c < '0' || c > '9' {
			fails(t, "module m 0"+b, 1, 10, api.ErrForm)
		}
		fails(t, "module m 0 "+b, 1, 12, api.ErrForm)
		fails(t, "module m 0\n"+b, 2, 1, api.ErrName)
	}
	fails(t, "module m# 0", 1, 9, api.ErrShort)
	fails(t, "module#m 0", 1, 7, api.ErrShort)
	fails(t, "module m\n0", 1, 9, api.ErrShort)
	fails(t, "module\nm 0", 1, 7, api.ErrShort)
	fails(t, "#module m 0", 2, 1, api.ErrShort)
}

// agrees tells whether Parse and slowParse do.
func agrees(t *testing.T, s string) (met api.Errno) {
	t.Helper()
	m, at, e := text.Parse(s)
	want, place, fault := slowParse(s)
	if !book.Same(m, want) || at != place || e != fault {
		t.Fatalf("Parse(%q) = %v, %v, %d, want %v, %v, %d", s, m, at, e, want, place, fault)
	}
	if e != api.OK {
		return e
	}
	if s, e := text.Print(m); s != slowPrint(m) || e != api.OK {
		t.Fatalf("Print(%v) = %q, %d", m, s, e)
	}
	return e
}

// mixed returns lines of possible and impossible words.
func mixed(r *rand.Rand) string {
	words := strings.Fields(table + " m p a_1 0 1 2 5 15 16 1048576 1099511627776 1099511627777 00 outside fifo priority in out sampling queuing process part whole ignore halt w wr rk - # ! A")
	s := "module m 0\n"
	for range r.Intn(30) {
		kind := kindsInOrder[r.Intn(len(kindsInOrder))]
		s += kind
		for _, w := range shapes[kind].words {
			word := strconv.Itoa(r.Intn(4))
			switch {
			case choices[w.sort] != nil:
				word = choices[w.sort][r.Intn(2)]
			case w.sort == "name":
				word = "n" + word
			case w.sort == "rights":
				word = "wrk"[:1+r.Intn(3)]
			}
			switch r.Intn(60) {
			case 0:
				word = words[r.Intn(len(words))]
			case 1:
				word += " " + words[r.Intn(len(words))]
			case 2:
				word = ""
			}
			s += " " + word
		}
		s += "\n"
	}
	return s
}

// P7.2 and R1: texts of all sorts, by the chapter's words.
func TestAgainstTheChapter(t *testing.T) {
	r := rand.New(rand.NewSource(11))
	met := map[api.Errno]int{}
	for range 6000 {
		met[agrees(t, mixed(r))]++
	}
	for range 3000 {
		b := []byte(fullText)
		for range 1 + r.Intn(3) {
			at := r.Intn(len(b))
			switch r.Intn(3) {
			case 0:
				b[at] = byte(r.Intn(256))
			case 1:
				b = append(b[:at], b[at+1:]...)
			case 2:
				b[at] = " \t\n#0a-wm"[r.Intn(9)]
			}
		}
		met[agrees(t, string(b))]++
	}
	for i := range len(fullText) {
		met[agrees(t, fullText[:i])]++
		met[agrees(t, fullText[i:])]++
	}
	for range 2000 {
		b := make([]byte, r.Intn(40))
		for i := range b {
			b[i] = "module m 0\n\t#ahrtp1_\x00\xff"[r.Intn(22)]
		}
		met[agrees(t, string(b))]++
	}
	for _, e := range []api.Errno{api.OK, api.ErrRange, api.ErrForm, api.ErrShort, api.ErrName, api.ErrTwice, api.ErrOrder} {
		if met[e] < 20 {
			t.Errorf("the error %d was met only %d times", e, met[e])
		}
	}
}
