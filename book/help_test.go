package book_test

import (
	"reflect"
	"strconv"

	"monocoque/book"
)

// full returns a right module that has two different things in each list.
func full() book.Module {
	return book.Module{
		Name:       "plane",
		Partitions: []book.Partition{part("left"), part("right_2")},
		Schedules: []book.Schedule{
			{Name: "cruise", Frame: 20, Windows: []book.Window{{Partition: 0, From: 0, Length: 5}, {Partition: 1, From: 5, Length: 15}}},
			{Name: "land", Frame: 10, Windows: []book.Window{{Partition: 1, From: 2, Length: 3}, {Partition: 0, From: 6, Length: 4}}},
		},
		Mode: 1,
		Channels: []book.Channel{
			{From: book.End{Partition: 0, Port: 1}, To: []book.End{{Partition: 1, Port: 0}, {Partition: book.Outside}}},
			{From: book.End{Partition: book.Outside}, To: []book.End{{Partition: 1, Port: 2}, {Partition: 0, Port: 3}}},
		},
		Links:  []book.Link{{Name: "up", Channel: 0, Gap: 7}, {Name: "down", Channel: 1, Gap: 9}},
		Health: []book.Rule{{Error: 17, Level: book.LevelWhole, Do: book.Tell}, {Error: 5, Level: book.LevelWhole}},
	}
}

func part(name string) book.Partition {
	return book.Partition{
		Name:  name,
		Areas: []book.Area{{Name: "code", From: 0, Words: 64, Run: true}, {Name: "data", From: 64, Words: 32, Write: true, Keep: true}},
		Tasks: []book.Task{
			{Name: "fast", Entry: 1, Stack: 16, Priority: 9, Period: 10, Capacity: 2, Deadline: 8, Offset: 3},
			{Name: "slow", Entry: 7, Stack: 20, Priority: 4, Period: 20, Capacity: 5, Deadline: 19, Offset: 6},
		},
		Locks:    []book.Lock{{Name: "l1", Ceiling: 9}, {Name: "l2", Ceiling: 10}},
		Semas:    []book.Sema{{Name: "s1", First: 1, Most: 2, ByPriority: true}, {Name: "s2", First: 3, Most: 4}},
		Events:   []book.Event{{Name: "e1"}, {Name: "e2"}},
		Boards:   []book.Board{{Name: "b1", Words: 5}, {Name: "b2", Words: 6}},
		Buffers:  []book.Buffer{{Name: "f1", Words: 7, Room: 8, ByPriority: true}, {Name: "f2", Words: 9, Room: 10}},
		Ports:    []book.Port{{Name: "p1", Out: true, Words: 11, Refresh: 12}, {Name: "p2", Queue: true, Words: 13, Room: 14}},
		Health:   []book.Rule{{Error: 14, Level: book.LevelProcess, Do: book.RestartProcess}, {Error: 15, Level: book.LevelPart, Do: book.ColdStart}},
		Restarts: 3,
		Budget:   book.Budget{Size: 4, Period: 15},
	}
}

// visit shows each value in v that is neither a struct nor a list to leaf, and each list to list, with the path that leads there.
func visit(v reflect.Value, path string, leaf, list func(path string, v reflect.Value)) {
	switch v.Kind() {
	case reflect.Struct:
		for i := range v.NumField() {
			visit(v.Field(i), path+"."+v.Type().Field(i).Name, leaf, list)
		}
	case reflect.Slice:
		list(path, v)
		for i := range v.Len() {
			visit(v.Index(i), path+"["+strconv.Itoa(i)+"]", leaf, list)
		}
	default:
		leaf(path, v)
	}
}

// leaves shows each number, bool and text of m to f.
func leaves(m *book.Module, f func(path string, v reflect.Value)) {
	visit(reflect.ValueOf(m).Elem(), "", f, func(string, reflect.Value) {})
}

// lists shows each list of m to f.
func lists(m *book.Module, f func(path string, v reflect.Value)) {
	visit(reflect.ValueOf(m).Elem(), "", func(string, reflect.Value) {}, f)
}

// change makes another value of v.
func change(v reflect.Value) {
	switch v.Kind() {
	case reflect.Int:
		v.SetInt(v.Int() + 1)
	case reflect.Bool:
		v.SetBool(!v.Bool())
	case reflect.String:
		v.SetString(v.String() + "x")
	}
}

// deep copies m by other means than its Clone; each of its lists has the given number of elements of spare capacity.
func deep(m book.Module, spare int) book.Module {
	c := m
	lists(&c, func(_ string, v reflect.Value) {
		if v.IsNil() {
			return
		}
		l := reflect.MakeSlice(v.Type(), v.Len(), v.Len()+spare)
		reflect.Copy(l, v)
		v.Set(l)
	})
	return c
}
