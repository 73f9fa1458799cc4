package pack_test

import (
	"bytes"
	"math"
	"math/rand"
	"reflect"
	"strings"
	"testing"

	"monocoque/api"
	"monocoque/book"
	"monocoque/pack"
	"monocoque/text"
	"monocoque/wire"
)

// encodes tells whether the contents of m's bytes are those, and are decoded to m.
func encodes(t *testing.T, m book.Module, contents []byte) {
	t.Helper()
	want := wire.Seal(contents)
	if b, e := pack.Encode(m); !bytes.Equal(b, want) || e != api.OK {
		t.Errorf("Encode(%v) = % x, %d, want % x", m, b, e, want)
	}
	if got, e := pack.Decode(want); !book.Same(got, m) || e != api.OK {
		t.Errorf("Decode(% x) = %v, %d, want %v", want, got, e, m)
	}
}

// fails tells whether Decode of b returns that error, and nothing else.
func fails(t *testing.T, b []byte, want api.Errno, why ...any) {
	t.Helper()
	if m, e := pack.Decode(b); !book.Same(m, book.Module{}) || e != want {
		t.Errorf("Decode(% x) = %v, %d, want the error %d %v", b, m, e, want, why)
	}
}

// P8.1 and the chapter's example: bytes that are written out here.
func TestBytes(t *testing.T) {
	encodes(t, book.Module{Name: "m"}, []byte("\x01\x01m\x00\x00\x01\x00\x00\x00"))
	encodes(t, book.Module{Name: "ab_1", Mode: 7, Links: []book.Link{{Name: "l", Channel: 31, Gap: 1 << 20}}},
		[]byte("\x01\x04ab_1\x00\x00\x08\x00\x01\x01l\x20\xc0\x80\x01\x00"))
	encodes(t, book.Module{
		Name: "m",
		Partitions: []book.Partition{{
			Name:     "p",
			Areas:    []book.Area{{Name: "a", From: 2, Words: 3, Write: true, Keep: true}, {Name: "b", From: 126, Words: 127, Run: true}},
			Tasks:    []book.Task{{Name: "t", Entry: 10, Stack: 11, Priority: 12, Period: 13, Capacity: 14, Deadline: 15, Offset: 16}},
			Locks:    []book.Lock{{Name: "l", Ceiling: 20}},
			Semas:    []book.Sema{{Name: "s", First: 21, Most: 22, ByPriority: true}},
			Events:   []book.Event{{Name: "e"}},
			Boards:   []book.Board{{Name: "d", Words: 23}},
			Buffers:  []book.Buffer{{Name: "f", Words: 24, Room: 25, ByPriority: true}},
			Ports:    []book.Port{{Name: "o", Out: true, Words: 26, Room: 27, Refresh: 28}, {Name: "q", Queue: true, Words: 29, Room: 30, Refresh: 31}},
			Health:   []book.Rule{{Error: 15, Level: 1, Do: 5}},
			Restarts: 33,
			Budget:   book.Budget{Size: 34, Period: 35},
		}},
		Schedules: []book.Schedule{{Name: "s", Frame: 40, Windows: []book.Window{{Partition: 0, From: 41, Length: 42}, {Partition: 1, From: 43, Length: 44}}}},
		Mode:      3,
		Channels:  []book.Channel{{From: book.End{Partition: book.Outside, Port: 0}, To: []book.End{{Partition: 1, Port: 2}, {Partition: 3, Port: 4}}}},
		Links:     []book.Link{{Name: "k", Channel: 5, Gap: 6}},
		Health:    []book.Rule{{Error: 7, Level: 2, Do: 1}},
	}, []byte("\x01\x01m\x01\x01p"+
		"\x02\x01a\x03\x04\x01\x00\x01\x01b\x7f\x81\x00\x00\x01\x00"+
		"\x01\x01t\x0b\x0c\x0d\x0e\x0f\x10\x11"+
		"\x01\x01l\x15"+
		"\x01\x01s\x16\x17\x01"+
		"\x01\x01e"+
		"\x01\x01d\x18"+
		"\x01\x01f\x19\x1a\x01"+
		"\x02\x01o\x01\x00\x1b\x1c\x1d\x01q\x00\x01\x1e\x1f\x20"+
		"\x01\x10\x02\x06"+
		"\x22\x23\x24"+
		"\x01\x01s\x29\x02\x01\x2a\x2b\x02\x2c\x2d"+
		"\x04"+
		"\x01\x00\x01\x02\x02\x03\x04\x05"+
		"\x01\x01k\x06\x07"+
		"\x01\x08\x03\x02"))
}

// P8.1 and P8.3: modules of all sorts, up to the biggest one; the same ones as text and back.
func TestThereAndBack(t *testing.T) {
	r := rand.New(rand.NewSource(5))
	modules := []book.Module{full(), biggest()}
	for i := range 400 {
		modules = append(modules, random(r, i%7))
	}
	for _, m := range modules {
		if !m.Right() {
			t.Fatal("not right:", m)
		}
		encodes(t, m, slowContents(m))
		s, e := text.Print(m)
		n, _, f := text.Parse(s)
		b, g := pack.Encode(n)
		if m, h := pack.Decode(b); e != api.OK || f != api.OK || g != api.OK || h != api.OK || !bytes.Equal(b, wire.Seal(slowContents(m))) {
			t.Error("another module by its text:", e, f, g, h)
		} else if again, _ := text.Print(m); again != s {
			t.Error("another text by its bytes:", again)
		}
		if t.Failed() {
			return
		}
	}
}

// P8.3: modules that differ in one value, or in one list, have different bytes.
func TestOneEncodingEach(t *testing.T) {
	m := full()
	kept := slowContents(m)
	seen := map[string]string{string(kept): "nothing"}
	n := 0
	differs := func(path string) {
		t.Helper()
		b, e := pack.Encode(m)
		if other, there := seen[string(b)]; there || e != api.OK {
			t.Errorf("with another %s: % x, %d, as with another %s", path, b, e, other)
		}
		seen[string(b)] = path
		encodes(t, m, slowContents(m))
		n++
	}
	leaves(&m, func(path string, v reflect.Value) {
		kept := reflect.ValueOf(v.Interface())
		switch v.Kind() {
		case reflect.Int:
			b := bounds[plain(path)]
			if v.Int() == int64(b[1]) {
				v.SetInt(int64(b[0]))
			} else {
				v.SetInt(int64(b[1]))
			}
		case reflect.Bool:
			v.SetBool(!v.Bool())
		case reflect.String:
			v.SetString(v.String() + "x")
		}
		differs(path)
		v.Set(kept)
	})
	lists(&m, func(path string, v reflect.Value) {
		kept := reflect.ValueOf(v.Interface())
		v.Set(kept.Slice(0, 1))
		differs(path)
		v.SetZero()
		differs(path)
		v.Set(kept)
	})
	if n < 194 {
		t.Error("only", n)
	}
}

// P8.1 and R3: a nil list is encoded as an empty one.
func TestEmptyLists(t *testing.T) {
	m := book.Module{Name: "m", Partitions: []book.Partition{{Name: "p"}}, Schedules: []book.Schedule{{Name: "s", Frame: 1}}, Channels: []book.Channel{{}}}
	want := slowContents(m)
	encodes(t, m, want)
	lists(&m, func(_ string, v reflect.Value) {
		if v.Len() == 0 {
			v.Set(reflect.MakeSlice(v.Type(), 0, 3))
		}
	})
	encodes(t, m, want)
}

// P8.1 and P8.2: what is not right has no bytes, and bytes of it have no module: by a number, by a name, by a list.
func TestNotRight(t *testing.T) {
	n := 0
	fail := func(m book.Module, path string, decoded bool) {
		t.Helper()
		n++
		if b, e := pack.Encode(m); len(b) != 0 || e != api.ErrRange {
			t.Errorf("Encode with another %s: % x, %d", path, b, e)
		}
		if decoded {
			fails(t, wire.Seal(slowContents(m)), api.ErrRange, path)
		}
	}
	fail(book.Module{}, "name", true)
	m := full()
	leaves(&m, func(path string, v reflect.Value) {
		kept := reflect.ValueOf(v.Interface())
		switch v.Kind() {
		case reflect.Int:
			b := bounds[plain(path)]
			for _, n := range []int{b[0] - 1, b[1] + 1, 1 << 40, 1<<40 + 1, math.MinInt, math.MaxInt} {
				v.SetInt(int64(n))
				fail(m, path, n >= -1)
			}
		case reflect.String:
			for _, s := range []string{"", "A", "a b", "a\xff", "1" + strings.Repeat("a", 29), strings.Repeat("a", 31), strings.Repeat("a", 300)} {
				v.SetString(s)
				fail(m, path, true)
			}
		}
		v.Set(kept)
	})
	lists(&m, func(path string, v reflect.Value) {
		kept := reflect.ValueOf(v.Interface())
		for _, n := range []int{most[plain(path)] + 1, 255, 256, 257} {
			l := reflect.MakeSlice(v.Type(), n, n)
			for i := range n {
				l.Index(i).Set(kept.Index(i % 2))
			}
			v.Set(l)
			fail(m, path, true)
		}
		v.Set(kept)
	})
	if n < 1000 {
		t.Error("only", n)
	}
	encodes(t, m, slowContents(full()))
}

// R4: Encode changes nothing, keeps nothing, and its results are independent; so are those of Decode.
func TestNothingIsShared(t *testing.T) {
	m := full()
	a, _ := pack.Encode(m)
	if !reflect.DeepEqual(m, full()) {
		t.Error("Encode changes its argument:", m)
	}
	want := wire.Seal(slowContents(m))
	b, _ := pack.Encode(m)
	for i := range a {
		a[i]++
	}
	if !bytes.Equal(b, want) {
		t.Error("two results of Encode share memory")
	}
	memory := append(bytes.Clone(want), 0xee, 0xee)
	x, _ := pack.Decode(memory[:len(want)])
	y, _ := pack.Decode(memory[:len(want)])
	if !bytes.Equal(memory, append(bytes.Clone(want), 0xee, 0xee)) {
		t.Error("Decode changes its argument")
	}
	for i := range memory {
		memory[i] = 'x'
	}
	if !book.Same(x, full()) {
		t.Error("a module changes with its bytes:", x)
	}
	lists(&x, func(_ string, v reflect.Value) {
		whole := v.Slice(0, v.Cap())
		for i := v.Len(); i < v.Cap(); i++ {
			whole.Index(i).SetZero()
		}
	})
	if !book.Same(x, full()) {
		t.Error("lists of one module share memory:", x)
	}
	spoil(&x)
	if !book.Same(y, full()) {
		t.Error("two results of Decode share memory:", y)
	}
	lists(&m, func(_ string, v reflect.Value) {
		l := reflect.MakeSlice(v.Type(), v.Len(), v.Len()+3)
		reflect.Copy(l, v)
		v.Set(l)
	})
	pack.Encode(m)
	lists(&m, func(path string, v reflect.Value) {
		whole := v.Slice(0, v.Cap())
		for i := v.Len(); i < v.Cap(); i++ {
			if !whole.Index(i).IsZero() {
				t.Error("Encode writes beyond the end of", path)
			}
		}
	})
}
