package calls_test

import (
	"math"
	"testing"

	"monocoque/api"
	"monocoque/calls"
)

// row is a line of the chapter's table: a call's word, whether it has an object, a place, words and ticks, and its price.
type row struct {
	word                     string
	object, at, words, ticks bool
	price                    int
}

// table is the chapter's, whose lines are those of the calls from 0 on.
var table = []row{
	{"now", false, false, false, false, 1},
	{"self", false, false, false, false, 1},
	{"wait", false, false, false, true, 2},
	{"done", false, false, false, false, 1},
	{"start", true, false, false, false, 3},
	{"stop", true, false, false, false, 3},
	{"suspend", true, false, false, false, 2},
	{"resume", true, false, false, false, 2},
	{"priority", true, true, false, false, 2},
	{"take", true, false, false, true, 3},
	{"give", true, false, false, false, 3},
	{"down", true, false, false, true, 2},
	{"up", true, false, false, false, 2},
	{"raise", true, false, false, false, 2},
	{"lower", true, false, false, false, 1},
	{"await", true, false, false, true, 2},
	{"show", true, true, true, false, 2},
	{"hide", true, false, false, false, 1},
	{"look", true, true, false, true, 6},
	{"send", true, true, true, true, 3},
	{"receive", true, true, false, true, 6},
	{"write", true, true, true, false, 2},
	{"read", true, true, false, false, 6},
	{"put", true, true, true, false, 3},
	{"get", true, true, false, false, 6},
	{"report", false, true, true, false, 2},
	{"fail", false, true, false, false, 1},
	{"normal", false, false, false, false, 1},
}

// numbers are the calls in the order of the table.
var numbers = []int{
	calls.Now, calls.Self, calls.Wait, calls.Done, calls.Start, calls.Stop, calls.Suspend, calls.Resume, calls.Priority,
	calls.Take, calls.Give, calls.Down, calls.Up, calls.Raise, calls.Lower, calls.Await, calls.Show, calls.Hide,
	calls.Look, calls.Send, calls.Receive, calls.Write, calls.Read, calls.Put, calls.Get, calls.Report, calls.Fail,
	calls.Normal,
}

// noCalls are numbers of no call.
var noCalls = []int{-1, -2, -28, 28, 29, 31, 32, 60, 256, 1<<18 - 1, 1 << 32, 1<<32 + 9, -1 << 32, math.MaxInt, math.MinInt}

const all = 1<<32 - 1

// spoilt fills registers so that no two of them are alike, and none of them fits any field.
func spoilt() (r [16]uint32) {
	for i := range r {
		r[i] = 0xfff00000 + uint32(i)
	}
	return r
}

// registers returns registers in which the first ones are these.
func registers(l ...uint32) (r [16]uint32) {
	r = spoilt()
	copy(r[:], l)
	return r
}

func decodes(t *testing.T, n int, r [16]uint32, want calls.Request) {
	t.Helper()
	if q, e := calls.Decode(n, r); q != want || e != api.OK {
		t.Errorf("Decode(%d, %d) = %v, %d, want %v", n, r, q, e, want)
	}
}

func refuses(t *testing.T, n int, r [16]uint32, want api.Errno) {
	t.Helper()
	if q, e := calls.Decode(n, r); q != (calls.Request{}) || e != want {
		t.Errorf("Decode(%d, %d) = %v, %d, want error %d", n, r, q, e, want)
	}
}

// valid tells by the chapter whether a request is valid.
func valid(q calls.Request) bool {
	if q.Call < 0 || q.Call > 27 {
		return false
	}
	c := table[q.Call]
	return (c.object || q.Object == 0) && (c.at || q.At == 0) && (c.words || q.Words == 0) && (c.ticks || q.Ticks == 0) &&
		q.Object >= 0 && q.Object <= 15 && q.Words >= 0 && q.Words <= 32 && q.Ticks >= -1 && q.Ticks < all &&
		(q.Call != 26 || q.At >= 1 && q.At <= 27)
}

// full returns a valid request of a call in which each field that it has is greater than 0.
func full(call int) calls.Request {
	q, c := calls.Request{Call: call}, table[call]
	if c.object {
		q.Object = 7
	}
	if c.at {
		q.At = 11
	}
	if c.words {
		q.Words = 13
	}
	if c.ticks {
		q.Ticks = 17
	}
	return q
}

// spoil returns q with one of its fields changed.
func spoil(q calls.Request, field, by int) calls.Request {
	switch field {
	case 0:
		q.Object += by
	case 1:
		q.At += uint32(by)
	case 2:
		q.Words += by
	default:
		q.Ticks += by
	}
	return q
}
