// Package span is layer 1: ticks, intervals of ticks, and periodic intervals.
package span

import "monocoque/api"

// Most is the greatest First, Every and Length of a beat, and the greatest answer of Lcm.
const Most = 1 << 40

// Span contains the ticks from From (included) to To (excluded).
type Span struct{ From, To int }

// Len returns the number of ticks of s.
func (s Span) Len() int {
	if s.To <= s.From {
		return 0
	}
	return s.To - s.From
}

// Has reports whether t is one of the ticks of s.
func (s Span) Has(t int) bool { return s.From <= t && t < s.To }

// And returns the ticks that s and o have in common.
func (s Span) And(o Span) Span {
	both := Span{From: max(s.From, o.From), To: min(s.To, o.To)}
	if both.Len() == 0 {
		return Span{}
	}
	return both
}

// Gcd returns the greatest number that divides all elements of l, or 0 if none of them is other than 0.
func Gcd(l ...int) int {
	g := 0
	for _, n := range l {
		for n != 0 {
			g, n = n, g%n
		}
	}
	// Remainders keep the sign of what was divided, so it is dropped only here.
	return max(g, -g)
}

// Lcm returns the smallest positive number, at most Most, that all elements of l divide.
func Lcm(l ...int) (int, api.Errno) {
	m := 1
	for _, n := range l {
		if n < 1 {
			return 0, api.ErrRange
		}
		factor := n / Gcd(m, n)
		// Held against a quotient, since the product may be beyond every int.
		if factor > Most/m {
			return 0, api.ErrRange
		}
		m *= factor
	}
	return m, api.OK
}
