package space

import "rewind/api"

// span is a stretch of a segment: its points p + t·d with t from first to last.
type span struct {
	first, last Fraction
}

// narrow keeps of s what is from lo to hi on an axis on which the segment goes from p by d, and tells whether anything is left.
func (s span) narrow(p int, d int, lo int, hi int) (span, bool) {
	if d == 0 {
		return s, lo <= p && p <= hi
	}
	first := Fraction{Up: lo - p, Low: d}
	last := Fraction{Up: hi - p, Low: d}
	if d < 0 {
		// Going down, the segment meets hi ahead of lo.
		first = Fraction{Up: p - hi, Low: -d}
		last = Fraction{Up: p - lo, Low: -d}
	}
	if first.Above(s.first) {
		s.first = first
	}
	if s.last.Above(last) {
		s.last = last
	}
	return s, !s.first.Above(s.last)
}

// Enter tells whether a point of the segment from p by d lies in b, and the least t of such a point, in lowest terms.
// All coordinates are within Limits.
func (b Box) Enter(p api.Point, d api.Point) (bool, Fraction) {
	whole := span{first: Fraction{Up: 0, Low: 1}, last: Fraction{Up: 1, Low: 1}}
	left, some := whole.narrow(p.X, d.X, b.Lo.X, b.Hi.X)
	if !some {
		return false, Fraction{}
	}
	left, some = left.narrow(p.Y, d.Y, b.Lo.Y, b.Hi.Y)
	if !some {
		return false, Fraction{}
	}
	left, some = left.narrow(p.Z, d.Z, b.Lo.Z, b.Hi.Z)
	if !some {
		return false, Fraction{}
	}
	return true, left.first.lowest()
}
