// Package past: where things stood, by their records.
package past

import (
	"rewind/api"
	"rewind/space"
)

// Fits tells whether a list of records and a time are such that Pose can be asked of them by a user.
func Fits(l []api.Record, t int) bool {
	if len(l) == 0 || len(l) > api.MaxRecords {
		return false
	}
	if t < 0 || t > api.MaxTime {
		return false
	}
	cube := space.Cube()
	earlier := -1
	for _, r := range l {
		if r.Tick <= earlier || r.Tick > api.MaxTick || !cube.Holds(r.At) {
			return false
		}
		earlier = r.Tick
	}
	return true
}

// Pose is where something stood at the time t, by records of the cube whose ticks go up.
func Pose(l []api.Record, t int) api.Point {
	if len(l) == 0 {
		return api.Point{}
	}
	earlier := l[0]
	if t <= timeOf(earlier) {
		return earlier.At
	}
	for _, r := range l {
		if t < timeOf(r) {
			return between(earlier, r, t)
		}
		earlier = r
	}
	return earlier.At
}

// timeOf is the time of a record, in subticks.
func timeOf(r api.Record) int {
	return api.Sub * r.Tick
}

// between is where something stood at the time t, which is not below the time of a, and below that of b.
func between(a api.Record, b api.Record, t int) api.Point {
	gone := t - timeOf(a)
	left := timeOf(b) - t
	return api.Point{
		X: blend(a.At.X, b.At.X, gone, left),
		Y: blend(a.At.Y, b.At.Y, gone, left),
		Z: blend(a.At.Z, b.At.Z, gone, left),
	}
}

// blend is the greatest whole number that is not above a + (b - a)·gone/(gone + left), for numbers that are not below 0.
func blend(a int, b int, gone int, left int) int {
	// The products pass 32 bits, which is all that an int may have.
	whole := int64(gone) + int64(left)
	if whole < 1 {
		return a
	}
	// In this form nothing is negative, so that the division rounds down.
	sum := int64(a)*int64(left) + int64(b)*int64(gone)
	return int(sum / whole)
}
