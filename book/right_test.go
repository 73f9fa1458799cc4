package book_test

import (
	"math"
	"reflect"
	"regexp"
	"strings"
	"testing"

	"monocoque/book"
)

// P6.1 and the chapter's example: names.
func TestName(t *testing.T) {
	for _, s := range []string{
		"a", "z", "m", "a_1", "a1", "a_", "a__", "z9", "a0", "abcdefghijklmnopqrstuvwxyz", "a_0123456789_z",
		strings.Repeat("a", 29), strings.Repeat("z", 30), "a" + strings.Repeat("_", 29), "a" + strings.Repeat("9", 29),
	} {
		if !book.Name(s) {
			t.Errorf("%q is a name", s)
		}
	}
	for _, s := range []string{
		"", "1a", "A", "_", "_a", "0", "9", "aA", "Aa", "a-1", "a.b", "a b", " a", "a ", "a\n", "\x00", "a\x00", "ä", "aä", "a\xff", "é1", "-", "a,b",
		strings.Repeat("a", 31), strings.Repeat("a", 32), strings.Repeat("a", 256+1), strings.Repeat("a", 1<<16+1), strings.Repeat("1", 30),
	} {
		if book.Name(s) {
			t.Errorf("%q is no name", s)
		}
	}
}

// P6.1: each byte, as the first of a name, in its midst and as its last.
func TestNameByBytes(t *testing.T) {
	const first = "abcdefghijklmnopqrstuvwxyz"
	const others = first + "0123456789_"
	for c := range 256 {
		s := string([]byte{byte(c)})
		if book.Name(s) != strings.Contains(first, s) || book.Name(s+"b") != strings.Contains(first, s) {
			t.Errorf("%q as the first byte", s)
		}
		for n := 1; n < 30; n++ {
			rest := strings.Repeat("y", 29-n)
			if book.Name(strings.Repeat("x", n)+s+rest) != strings.Contains(others, s) {
				t.Errorf("%q as the byte %d of 30", s, n)
			}
		}
		if book.Name("a"+s) != strings.Contains(others, s) {
			t.Errorf("%q as the last byte", s)
		}
	}
}

// The chapter's example: the zero module has no name; with one it is right.
func TestRightOfLittle(t *testing.T) {
	if (book.Module{}).Right() {
		t.Error("the zero Module is right")
	}
	if !(book.Module{Name: "m"}).Right() {
		t.Error("a module that has a name and nothing else is not right")
	}
	if m := full(); !m.Right() {
		t.Error("not right:", m)
	}
}

// bounds are those of all numbers, as the chapter lists them; the keys lead to the fields.
var bounds = map[string][2]int{
	".Mode":                        {0, 7},
	".Partitions.Areas.From":       {0, 4095},
	".Partitions.Areas.Words":      {1, 4096},
	".Partitions.Tasks.Entry":      {0, 4095},
	".Partitions.Tasks.Stack":      {0, 4096},
	".Partitions.Tasks.Priority":   {1, 63},
	".Partitions.Tasks.Period":     {0, 1 << 20},
	".Partitions.Tasks.Capacity":   {0, 1 << 20},
	".Partitions.Tasks.Deadline":   {0, 1 << 20},
	".Partitions.Tasks.Offset":     {0, 1 << 20},
	".Partitions.Locks.Ceiling":    {1, 63},
	".Partitions.Semas.First":      {0, 65535},
	".Partitions.Semas.Most":       {1, 65535},
	".Partitions.Boards.Words":     {1, 32},
	".Partitions.Buffers.Words":    {1, 32},
	".Partitions.Buffers.Room":     {1, 32},
	".Partitions.Ports.Words":      {1, 32},
	".Partitions.Ports.Room":       {0, 32},
	".Partitions.Ports.Refresh":    {0, 1 << 20},
	".Partitions.Health.Error":     {1, 27},
	".Partitions.Health.Level":     {0, 2},
	".Partitions.Health.Do":        {0, 6},
	".Partitions.Restarts":         {0, 1000},
	".Partitions.Budget.Size":      {0, 1 << 20},
	".Partitions.Budget.Period":    {0, 1 << 20},
	".Schedules.Frame":             {1, 1 << 20},
	".Schedules.Windows.Partition": {0, 15},
	".Schedules.Windows.From":      {0, 1 << 20},
	".Schedules.Windows.Length":    {1, 1 << 20},
	".Channels.From.Partition":     {-1, 15},
	".Channels.From.Port":          {0, 15},
	".Channels.To.Partition":       {-1, 15},
	".Channels.To.Port":            {0, 15},
	".Links.Channel":               {0, 31},
	".Links.Gap":                   {0, 1 << 20},
	".Health.Error":                {1, 27},
	".Health.Level":                {0, 2},
	".Health.Do":                   {0, 6},
}

var index = regexp.MustCompile(`\[[0-9]+\]`)

// plain is a path without the indices in lists.
func plain(path string) string { return index.ReplaceAllString(path, "") }

// P6.1: each number of a module, wherever it is, at its bounds and beyond them.
func TestRightByNumbers(t *testing.T) {
	m := full()
	met := map[string]bool{}
	leaves(&m, func(path string, v reflect.Value) {
		if v.Kind() != reflect.Int {
			return
		}
		b, ok := bounds[plain(path)]
		if !ok {
			t.Fatal("no bounds of", path)
		}
		met[plain(path)] = true
		kept := v.Int()
		for _, n := range []int{b[0], b[0] + 1, (b[0] + b[1]) / 2, b[1] - 1, b[1]} {
			if v.SetInt(int64(n)); !m.Right() {
				t.Errorf("with %d in %s it is not right", n, path)
			}
		}
		for _, n := range []int{math.MinInt, -1 << 32, b[0] - 2, b[0] - 1, b[1] + 1, b[1] + 2, 1<<20 + 1, b[0] + 1<<32, b[1] + 1<<32, math.MaxInt} {
			if v.SetInt(int64(n)); m.Right() {
				t.Errorf("with %d in %s it is right", n, path)
			}
		}
		v.SetInt(kept)
	})
	if len(met) != len(bounds) || !m.Right() {
		t.Error("numbers of the chapter that were not met:", len(bounds)-len(met))
	}
}

// P6.1: each name of a module.
func TestRightByNames(t *testing.T) {
	m := full()
	met := map[string]bool{}
	leaves(&m, func(path string, v reflect.Value) {
		if v.Kind() != reflect.String {
			return
		}
		met[plain(path)] = true
		kept := v.String()
		for _, s := range []string{"", "1a", "A", "_a", "a b", strings.Repeat("a", 31)} {
			if v.SetString(s); m.Right() {
				t.Errorf("with %q in %s it is right", s, path)
			}
		}
		for _, s := range []string{"a", "a_1", strings.Repeat("z", 30)} {
			if v.SetString(s); !m.Right() {
				t.Errorf("with %q in %s it is not right", s, path)
			}
		}
		v.SetString(kept)
	})
	if len(met) != 12 { // of the module, its partitions, schedules and links, and 8 kinds of a partition
		t.Error("names of", met)
	}
}

// P6.1: a bool may have either value.
func TestRightByBools(t *testing.T) {
	m := full()
	leaves(&m, func(path string, v reflect.Value) {
		if v.Kind() == reflect.Bool {
			if v.SetBool(!v.Bool()); !m.Right() {
				t.Error("not right with another", path)
			}
		}
	})
}

// most are the limits of all lists, as the chapter tells them.
var most = map[string]int{
	".Partitions":         16,
	".Partitions.Areas":   16,
	".Partitions.Tasks":   16,
	".Partitions.Locks":   16,
	".Partitions.Semas":   16,
	".Partitions.Events":  16,
	".Partitions.Boards":  16,
	".Partitions.Buffers": 16,
	".Partitions.Ports":   16,
	".Partitions.Health":  32,
	".Schedules":          8,
	".Schedules.Windows":  64,
	".Channels":           32,
	".Channels.To":        8,
	".Links":              32,
	".Health":             32,
}

// filled returns a list of n elements, which are those of v by turns.
func filled(v reflect.Value, n int) reflect.Value {
	l := reflect.MakeSlice(v.Type(), n, n)
	for i := range n {
		l.Index(i).Set(v.Index(i % v.Len()))
	}
	return l
}

// P6.1: each list, from none up to its limit and beyond.
func TestRightByLists(t *testing.T) {
	for i := range 2 {
		m := full()
		met := map[string]bool{}
		lists(&m, func(path string, v reflect.Value) {
			limit, ok := most[plain(path)]
			if !ok {
				t.Fatal("no limit of", path)
			}
			met[plain(path)] = true
			kept := reflect.ValueOf(v.Interface())
			for _, n := range []int{0, 1, limit - 1, limit} {
				if v.Set(filled(kept, n)); !m.Right() {
					t.Errorf("with %d in %s it is not right", n, path)
				}
			}
			for _, n := range []int{limit + 1, limit + 2, 2 * limit, 2*limit + 1, 256, 256 + limit, 1 << 16} {
				if v.Set(filled(kept, n)); m.Right() {
					t.Errorf("with %d in %s it is right", n, path)
				}
			}
			if v.SetZero(); !m.Right() {
				t.Error("not right with a nil list in", path)
			}
			v.Set(kept)
			if i == 1 { // the other lists are as full as they may be
				v.Set(filled(kept, limit))
			}
		})
		if len(met) != len(most) || !m.Right() {
			t.Error("lists of the chapter that were not met:", len(most)-len(met))
		}
	}
}

// P6.1: one element that is not right, at each place of each list.
func TestRightByElements(t *testing.T) {
	m := full()
	lists(&m, func(path string, v reflect.Value) {
		kept := reflect.ValueOf(v.Interface())
		limit := most[plain(path)]
		for i := range limit {
			l := filled(kept, limit)
			f := l.Index(i).Field(0)
			switch f.Kind() {
			case reflect.String:
				f.SetString("")
			case reflect.Int:
				f.SetInt(-2)
			case reflect.Struct: // the From of a channel
				f.Field(0).SetInt(-2)
			}
			if v.Set(l); m.Right() {
				t.Errorf("with a wrong element %d in %s it is right", i, path)
			}
		}
		v.Set(kept)
	})
}

// P6.1: whether a module makes sense is not asked.
func TestRightWithoutSense(t *testing.T) {
	m := book.Module{
		Name: "m",
		Mode: 7,
		Partitions: []book.Partition{
			{
				Name:   "m",
				Areas:  []book.Area{{Name: "m", From: 4095, Words: 4096}, {Name: "m", From: 4095, Words: 4096}},
				Tasks:  []book.Task{{Name: "t", Priority: 1, Period: 1, Capacity: 2, Deadline: 3}},
				Semas:  []book.Sema{{Name: "s", First: 2, Most: 1}},
				Ports:  []book.Port{{Name: "p", Queue: true, Words: 1, Refresh: 5}, {Name: "q", Words: 1, Room: 3}},
				Health: []book.Rule{{Error: 1, Level: book.LevelWhole, Do: book.Halt}, {Error: 1, Level: book.LevelWhole, Do: book.Halt}},
				Budget: book.Budget{Size: 5, Period: 0},
			},
			{Name: "m"},
		},
		Schedules: []book.Schedule{{Name: "s", Frame: 1, Windows: []book.Window{{Partition: 15, From: 9, Length: 9}, {Partition: 15, From: 9, Length: 9}}}},
		Channels:  []book.Channel{{From: book.End{Partition: 15, Port: 15}}, {From: book.End{Partition: book.Outside, Port: 15}, To: []book.End{{Partition: book.Outside, Port: 3}}}},
		Links:     []book.Link{{Name: "l", Channel: 31}, {Name: "l", Channel: 31}},
		Health:    []book.Rule{{Error: 1, Level: book.LevelProcess, Do: book.Halt}},
	}
	if !m.Right() {
		t.Error("within all bounds, and not right")
	}
}

// The chapter's constants.
func TestConstants(t *testing.T) {
	limits := []int{book.MaxParts, book.MaxKind, book.MaxSchedules, book.MaxWindows, book.MaxChannels, book.MaxGoals, book.MaxLinks, book.MaxSpace, book.MaxFrame, book.MaxPriority, book.MaxMessage, book.MaxRoom, book.MaxRestarts}
	if want := []int{16, 16, 8, 64, 32, 8, 32, 4096, 1 << 20, 63, 32, 32, 1000}; !reflect.DeepEqual(limits, want) {
		t.Error(limits)
	}
	for i, c := range []int{book.Ignore, book.Tell, book.StopProcess, book.RestartProcess, book.WarmStart, book.ColdStart, book.Halt} {
		if c != i {
			t.Error("what a rule does:", i, c)
		}
	}
	for i, c := range []int{book.LevelProcess, book.LevelPart, book.LevelWhole} {
		if c != i {
			t.Error("levels:", i, c)
		}
	}
	if book.Outside != -1 {
		t.Error(book.Outside)
	}
}
