package pack_test

import (
	"math/rand"
	"reflect"
	"regexp"
	"strconv"
	"strings"

	"monocoque/book"
)

// full returns a right module that has two different things in each list.
func full() book.Module {
	return book.Module{
		Name:       "plane",
		Partitions: []book.Partition{part("left"), part("right_2")},
		Schedules: []book.Schedule{
			{Name: "cruise", Frame: 20, Windows: []book.Window{{Partition: 0, From: 0, Length: 5}, {Partition: 1, From: 5, Length: 15}}},
			{Name: "land", Frame: 10, Windows: []book.Window{{Partition: 1, From: 2, Length: 3}, {Partition: 0, From: 6, Length: 4}}},
		},
		Mode: 1,
		Channels: []book.Channel{
			{From: book.End{Partition: 0, Port: 1}, To: []book.End{{Partition: 1, Port: 0}, {Partition: book.Outside}}},
			{From: book.End{Partition: book.Outside}, To: []book.End{{Partition: 1, Port: 2}, {Partition: 0, Port: 3}}},
		},
		Links:  []book.Link{{Name: "up", Channel: 0, Gap: 7}, {Name: "down", Channel: 1, Gap: 9}},
		Health: []book.Rule{{Error: 17, Level: book.LevelWhole, Do: book.Tell}, {Error: 5, Level: book.LevelWhole}},
	}
}

func part(name string) book.Partition {
	return book.Partition{
		Name:  name,
		Areas: []book.Area{{Name: "code", From: 0, Words: 64, Run: true}, {Name: "data", From: 64, Words: 32, Write: true, Keep: true}},
		Tasks: []book.Task{
			{Name: "fast", Entry: 1, Stack: 16, Priority: 9, Period: 10, Capacity: 2, Deadline: 8, Offset: 3},
			{Name: "slow", Entry: 7, Stack: 20, Priority: 4, Period: 20, Capacity: 5, Deadline: 19, Offset: 6},
		},
		Locks:    []book.Lock{{Name: "l1", Ceiling: 9}, {Name: "l2", Ceiling: 10}},
		Semas:    []book.Sema{{Name: "s1", First: 1, Most: 2, ByPriority: true}, {Name: "s2", First: 3, Most: 4}},
		Events:   []book.Event{{Name: "e1"}, {Name: "e2"}},
		Boards:   []book.Board{{Name: "b1", Words: 5}, {Name: "b2", Words: 6}},
		Buffers:  []book.Buffer{{Name: "f1", Words: 7, Room: 8, ByPriority: true}, {Name: "f2", Words: 9, Room: 10}},
		Ports:    []book.Port{{Name: "p1", Out: true, Words: 11, Refresh: 12}, {Name: "p2", Queue: true, Words: 13, Room: 14}},
		Health:   []book.Rule{{Error: 14, Level: book.LevelProcess, Do: book.RestartProcess}, {Error: 15, Level: book.LevelPart, Do: book.ColdStart}},
		Restarts: 3,
		Budget:   book.Budget{Size: 4, Period: 15},
	}
}

// bounds are those of all numbers of a module, as layer 6 has them; the keys lead to the fields.
var bounds = map[string][2]int{
	".Mode":                        {0, 7},
	".Partitions.Areas.From":       {0, 4095},
	".Partitions.Areas.Words":      {1, 4096},
	".Partitions.Tasks.Entry":      {0, 4095},
	".Partitions.Tasks.Stack":      {0, 4096},
	".Partitions.Tasks.Priority":   {1, 63},
	".Partitions.Tasks.Period":     {0, 1 << 20},
	".Partitions.Tasks.Capacity":   {0, 1 << 20},
	".Partitions.Tasks.Deadline":   {0, 1 << 20},
	".Partitions.Tasks.Offset":     {0, 1 << 20},
	".Partitions.Locks.Ceiling":    {1, 63},
	".Partitions.Semas.First":      {0, 65535},
	".Partitions.Semas.Most":       {1, 65535},
	".Partitions.Boards.Words":     {1, 32},
	".Partitions.Buffers.Words":    {1, 32},
	".Partitions.Buffers.Room":     {1, 32},
	".Partitions.Ports.Words":      {1, 32},
	".Partitions.Ports.Room":       {0, 32},
	".Partitions.Ports.Refresh":    {0, 1 << 20},
	".Partitions.Health.Error":     {1, 27},
	".Partitions.Health.Level":     {0, 2},
	".Partitions.Health.Do":        {0, 6},
	".Partitions.Restarts":         {0, 1000},
	".Partitions.Budget.Size":      {0, 1 << 20},
	".Partitions.Budget.Period":    {0, 1 << 20},
	".Schedules.Frame":             {1, 1 << 20},
	".Schedules.Windows.Partition": {0, 15},
	".Schedules.Windows.From":      {0, 1 << 20},
	".Schedules.Windows.Length":    {1, 1 << 20},
	".Channels.From.Partition":     {-1, 15},
	".Channels.From.Port":          {0, 15},
	".Channels.To.Partition":       {-1, 15},
	".Channels.To.Port":            {0, 15},
	".Links.Channel":               {0, 31},
	".Links.Gap":                   {0, 1 << 20},
	".Health.Error":                {1, 27},
	".Health.Level":                {0, 2},
	".Health.Do":                   {0, 6},
}

// most are the limits of all lists of a module.
var most = map[string]int{
	".Partitions": 16, ".Partitions.Areas": 16, ".Partitions.Tasks": 16, ".Partitions.Locks": 16, ".Partitions.Semas": 16,
	".Partitions.Events": 16, ".Partitions.Boards": 16, ".Partitions.Buffers": 16, ".Partitions.Ports": 16, ".Partitions.Health": 32,
	".Schedules": 8, ".Schedules.Windows": 64, ".Channels": 32, ".Channels.To": 8, ".Links": 32, ".Health": 32,
}

var index = regexp.MustCompile(`\[[0-9]+\]`)

// plain is a path without the indices in lists.
func plain(path string) string { return index.ReplaceAllString(path, "") }

// visit shows each value in v that is neither a struct nor a list to leaf, and each list to list ahead of its elements.
func visit(v reflect.Value, path string, leaf, list func(path string, v reflect.Value)) {
	switch v.Kind() {
	case reflect.Struct:
		for i := range v.NumField() {
			visit(v.Field(i), path+"."+v.Type().Field(i).Name, leaf, list)
		}
	case reflect.Slice:
		list(path, v)
		for i := range v.Len() {
			visit(v.Index(i), path+"["+strconv.Itoa(i)+"]", leaf, list)
		}
	default:
		leaf(path, v)
	}
}

// leaves shows each number, bool and text of m to f.
func leaves(m *book.Module, f func(path string, v reflect.Value)) {
	visit(reflect.ValueOf(m).Elem(), "", f, func(string, reflect.Value) {})
}

// lists shows each list of m to f.
func lists(m *book.Module, f func(path string, v reflect.Value)) {
	visit(reflect.ValueOf(m).Elem(), "", func(string, reflect.Value) {}, f)
}

// made returns a module of lists of the lengths, and of numbers, bools and names, that the functions choose.
func made(length func(most int) int, number func(from, to int) int, yes func() bool, name func() string) book.Module {
	var m book.Module
	visit(reflect.ValueOf(&m).Elem(), "", func(path string, v reflect.Value) {
		switch v.Kind() {
		case reflect.Int:
			b := bounds[plain(path)]
			v.SetInt(int64(number(b[0], b[1])))
		case reflect.Bool:
			v.SetBool(yes())
		case reflect.String:
			v.SetString(name())
		}
	}, func(path string, v reflect.Value) {
		n := length(most[plain(path)])
		v.Set(reflect.MakeSlice(v.Type(), n, n))
	})
	return m
}

// random returns a right module of at most so many things a list.
func random(r *rand.Rand, things int) book.Module {
	const letters = "abcdefghijklmnopqrstuvwxyz0123456789_"
	return made(
		func(most int) int { return r.Intn(min(things, most) + 1) },
		func(from, to int) int {
			switch r.Intn(4) {
			case 0:
				return from
			case 1:
				return to
			}
			return from + r.Intn(to-from+1)
		},
		func() bool { return r.Intn(2) == 0 },
		func() string {
			s := letters[r.Intn(26):][:1]
			for range r.Intn(30) {
				s += letters[r.Intn(len(letters)):][:1]
			}
			return s
		},
	)
}

// biggest returns a right module of as many things, and as long ones, as there may be.
func biggest() book.Module {
	n := 0
	return made(
		func(most int) int { return most },
		func(from, to int) int { return to },
		func() bool { return true },
		func() string {
			n++
			return strings.Repeat("z", 25) + strconv.Itoa(10000+n)
		},
	)
}

// spoil changes all values of m.
func spoil(m *book.Module) {
	leaves(m, func(_ string, v reflect.Value) {
		switch v.Kind() {
		case reflect.Int:
			v.SetInt(-77)
		case reflect.Bool:
			v.SetBool(!v.Bool())
		case reflect.String:
			v.SetString("spoilt")
		}
	})
}
