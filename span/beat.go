package span

import "monocoque/api"

// Beat consists of spans of Length ticks that begin at First and at each Every ticks after it, without end.
type Beat struct{ First, Every, Length int }

// Check returns OK if the beat is valid, and otherwise ErrRange.
func (b Beat) Check() api.Errno {
	switch {
	case b.First < 0, b.First > Most:
		return api.ErrRange
	case b.Every < 1, b.Every > Most:
		return api.ErrRange
	case b.Length < 1, b.Length > b.Every:
		return api.ErrRange
	}
	return api.OK
}

// valid guards every division by Every: nothing is promised for other beats, but that no call panics.
func (b Beat) valid() bool { return b.Check() == api.OK }

// At reports whether t belongs to one of the spans of b.
func (b Beat) At(t int) bool {
	// The order matters: t - First may be beyond every int if t is below First.
	return b.valid() && t >= b.First && (t-b.First)%b.Every < b.Length
}

// Next returns the smallest tick not less than t at which a span of b begins.
func (b Beat) Next(t int) int {
	if !b.valid() {
		return 0
	}
	if t <= b.First {
		return b.First
	}
	into := (t - b.First) % b.Every
	if into == 0 {
		return t
	}
	return t - into + b.Every
}

// Busy returns the number of ticks of s that belong to spans of b.
func (b Beat) Busy(s Span) int {
	if !b.valid() || s.To <= s.From {
		return 0
	}
	return b.before(s.To) - b.before(s.From)
}

// before returns the number of ticks below t that belong to spans of a valid beat.
func (b Beat) before(t int) int {
	if t <= b.First {
		return 0
	}
	past := t - b.First
	return past/b.Every*b.Length + min(past%b.Every, b.Length)
}

// Meet reports whether some tick belongs to spans of both beats.
func Meet(a, b Beat) bool {
	if !a.valid() || !b.valid() {
		return false
	}
	// A beginning of a span of b lies, behind one of a, exactly the distances that leave
	// this remainder by the common divisor; and since beats have no end, each of these occurs.
	g := Gcd(a.Every, b.Every)
	behind := (b.First - a.First) % g
	if behind < 0 {
		behind += g
	}
	return behind < a.Length || g-behind < b.Length
}
