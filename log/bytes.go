package log

import (
	"monocoque/api"
	"monocoque/wire"
)

// mark is the first byte of each log.
const mark = 76

// Flush returns the bytes of the log.
func (l *Log) Flush() []byte {
	if l == nil {
		return nil
	}
	b := []byte{mark}
	// Each value is encoded on its own, since layer 2 would copy all the bytes ahead of it each time.
	number := func(n int) { b = append(b, wire.PutVar(nil, uint64(n))...) }
	number(len(l.parts))
	for _, p := range l.parts {
		number(p.room)
		number(p.added)
		number(len(p.entries))
		for _, e := range p.entries {
			number(e.Tick)
			number(e.Kind)
			number(len(e.Words))
			for _, w := range e.Words {
				b = append(b, wire.PutWord(nil, w)...)
			}
		}
	}
	return wire.Seal(b)
}

// Back returns the log whose bytes are b.
func Back(b []byte) (*Log, api.Errno) {
	b, e := wire.Open(b)
	if e != api.OK {
		return nil, e
	}
	r := wire.NewReader(b)
	if r.Byte() != mark {
		return nil, api.ErrForm
	}
	parts, e := read(r)
	if e == api.OK {
		e = r.End()
	}
	if e != api.OK {
		return nil, e
	}
	return &Log{parts: parts}, api.OK
}

// read returns the partitions that a reader stands ahead of; they are nothing of use if there is an error.
func read(r *wire.Reader) (l []part, e api.Errno) {
	demand := func(is bool, wrong api.Errno) {
		if e == api.OK && !is {
			e = wrong
		}
	}
	// number reads nothing any more after the first error, whether the reader has it or what was read was not right.
	number := func(most uint64) int {
		if e != api.OK {
			return 0
		}
		n := r.Var(most)
		e = r.Err()
		return int(n)
	}
	count := number(mostParts)
	demand(count > 0, api.ErrRange)
partitions:
	for i := range count {
		room := number(mostRoom)
		demand(room > 0, api.ErrRange)
		added := number(mostAdded)
		present := number(mostRoom)
		demand(present == min(room, added), api.ErrForm)
		p := part{room: room, added: added - present}
		for range present {
			entry := Entry{Part: i, Tick: number(lastTick), Kind: number(mostKind)}
			for range number(mostWords) {
				entry.Words = append(entry.Words, r.Word())
			}
			demand(r.Err() == api.OK, r.Err())
			if e != api.OK {
				break partitions
			}
			p.add(entry)
		}
		l = append(l, p)
	}
	return l, e
}
