package pack_test

import (
	"reflect"
	"strings"

	"monocoque/api"
	"monocoque/book"
	"monocoque/wire"
)

// order has the fields of each structure, as the chapter lists them.
var order = map[string]string{
	"Module":    "Name Partitions Schedules Mode Channels Links Health",
	"Partition": "Name Areas Tasks Locks Semas Events Boards Buffers Ports Health Restarts Budget",
	"Area":      "Name From Words Write Run Keep",
	"Task":      "Name Entry Stack Priority Period Capacity Deadline Offset",
	"Lock":      "Name Ceiling",
	"Sema":      "Name First Most ByPriority",
	"Event":     "Name",
	"Board":     "Name Words",
	"Buffer":    "Name Words Room ByPriority",
	"Port":      "Name Out Queue Words Room Refresh",
	"Rule":      "Error Level Do",
	"Budget":    "Size Period",
	"Schedule":  "Name Frame Windows",
	"Window":    "Partition From Length",
	"Channel":   "From To",
	"End":       "Partition Port",
	"Link":      "Name Channel Gap",
}

// A piece is the encoding of one value, and what kind of value it is.
type piece struct {
	sort  string // format, number, bool, text or length
	bytes []byte
}

// slowPieces are the encodings of all values of m by the chapter's words, right or not.
func slowPieces(m book.Module) []piece {
	pieces := []piece{{"format", []byte{1}}}
	add := func(sort string, n uint64) { pieces = append(pieces, piece{sort, slowNumber(n)}) }
	var put func(v reflect.Value)
	put = func(v reflect.Value) {
		switch v.Kind() {
		case reflect.Int:
			add("number", uint64(v.Int()+1))
		case reflect.Bool:
			add("bool", map[bool]uint64{true: 1}[v.Bool()])
		case reflect.String:
			pieces = append(pieces, piece{"text", append(slowNumber(uint64(v.Len())), v.String()...)})
		case reflect.Slice:
			add("length", uint64(v.Len()))
			for i := range v.Len() {
				put(v.Index(i))
			}
		case reflect.Struct:
			for _, f := range strings.Fields(order[v.Type().Name()]) {
				put(v.FieldByName(f))
			}
		}
	}
	put(reflect.ValueOf(m))
	return pieces
}

// slowNumber is the encoding of n: digits to the base 128, the first ones ahead.
func slowNumber(n uint64) []byte {
	b := []byte{byte(n % 128)}
	for n /= 128; n > 0; n /= 128 {
		b = append([]byte{byte(128 + n%128)}, b...)
	}
	return b
}

// slowContents are the bytes of m ahead of their sum.
func slowContents(m book.Module) []byte { return contents(slowPieces(m)) }

func contents(pieces []piece) []byte {
	var b []byte
	for _, p := range pieces {
		b = append(b, p.bytes...)
	}
	return b
}

// slowDecode is Decode by the chapter's words.
func slowDecode(b []byte) (book.Module, api.Errno) {
	b, e := wire.Open(b)
	if e != api.OK {
		return book.Module{}, e
	}
	var m book.Module
	if b, e = slowRead(b, reflect.ValueOf(&m).Elem()); e != api.OK {
		return book.Module{}, e
	}
	if len(b) > 0 {
		return book.Module{}, api.ErrForm
	}
	if !m.Right() {
		return book.Module{}, api.ErrRange
	}
	return m, api.OK
}

// slowRead reads the format and a module, and returns the bytes behind them.
func slowRead(b []byte, m reflect.Value) ([]byte, api.Errno) {
	var fault api.Errno
	// take reads one value by a reader of layer 2 of its own.
	take := func(read func(r *wire.Reader)) {
		if fault == api.OK {
			r := wire.NewReader(b)
			read(r)
			fault, b = r.Err(), b[len(b)-r.Left():]
		}
	}
	number := func(most uint64) (n uint64) {
		take(func(r *wire.Reader) { n = r.Var(most) })
		return n
	}
	if format := number(1<<40 + 1); format != 1 && fault == api.OK {
		return nil, api.ErrForm
	}
	var get func(v reflect.Value)
	get = func(v reflect.Value) {
		if fault != api.OK {
			return
		}
		switch v.Kind() {
		case reflect.Int:
			v.SetInt(int64(number(1<<40+1)) - 1)
		case reflect.Bool:
			v.SetBool(number(1) == 1)
		case reflect.String:
			take(func(r *wire.Reader) { v.SetString(r.Text(30)) })
		case reflect.Slice:
			n := int(number(256))
			v.Set(reflect.MakeSlice(v.Type(), n, n))
			for i := range n {
				get(v.Index(i))
			}
		case reflect.Struct:
			for _, f := range strings.Fields(order[v.Type().Name()]) {
				get(v.FieldByName(f))
			}
		}
	}
	get(m)
	return b, fault
}
