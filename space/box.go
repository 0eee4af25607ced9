package space

import "rewind/api"

// Box is all points from Lo to Hi on each axis, borders too.
type Box struct {
	Lo, Hi api.Point
}

// Cube is the box in which the players walk.
func Cube() Box {
	return Box{Hi: api.Point{X: api.Size, Y: api.Size, Z: api.Size}}
}

// Limits is the box of all points that a call may name.
func Limits() Box {
	return Box{
		Lo: api.Point{X: -api.MaxCoord, Y: -api.MaxCoord, Z: -api.MaxCoord},
		Hi: api.Point{X: api.MaxCoord, Y: api.MaxCoord, Z: api.MaxCoord},
	}
}

// Ordered tells whether b has its lower borders below or at its upper ones.
func (b Box) Ordered() bool {
	return b.Lo.X <= b.Hi.X && b.Lo.Y <= b.Hi.Y && b.Lo.Z <= b.Hi.Z
}

// Holds tells whether p lies in b.
func (b Box) Holds(p api.Point) bool {
	return b.Lo.X <= p.X && p.X <= b.Hi.X &&
		b.Lo.Y <= p.Y && p.Y <= b.Hi.Y &&
		b.Lo.Z <= p.Z && p.Z <= b.Hi.Z
}

// Nearest is, on each axis, the coordinate of b that is nearest to that of p. b is ordered.
func (b Box) Nearest(p api.Point) api.Point {
	return api.Point{
		X: nearest(p.X, b.Lo.X, b.Hi.X),
		Y: nearest(p.Y, b.Lo.Y, b.Hi.Y),
		Z: nearest(p.Z, b.Lo.Z, b.Hi.Z),
	}
}

// nearest is the number from lo to hi that is nearest to n.
func nearest(n int, lo int, hi int) int {
	if n < lo {
		return lo
	}
	if n > hi {
		return hi
	}
	return n
}

// Inside tells whether the plane at a coordinate of an axis ('x', 'y' or 'z') lies strictly between the borders of b.
func (b Box) Inside(axis byte, at int) bool {
	switch axis {
	case 'x':
		return b.Lo.X < at && at < b.Hi.X
	case 'y':
		return b.Lo.Y < at && at < b.Hi.Y
	default:
		return b.Lo.Z < at && at < b.Hi.Z
	}
}

// Cut is the part of b up to the plane at a coordinate of an axis ('x', 'y' or 'z'), and the part from it on.
func (b Box) Cut(axis byte, at int) (Box, Box) {
	lower := b
	upper := b
	switch axis {
	case 'x':
		lower.Hi.X = at
		upper.Lo.X = at
	case 'y':
		lower.Hi.Y = at
		upper.Lo.Y = at
	default:
		lower.Hi.Z = at
		upper.Lo.Z = at
	}
	return lower, upper
}
