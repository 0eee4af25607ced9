// Package chart: maps, and what they say of points and segments.
package chart

import (
	"rewind/api"
	"rewind/space"
)

// solid stands for the zone of a leaf that has none.
const solid = -1

// leaf is a leaf of a tree.
type leaf struct {
	region space.Box
	zone   int
}

// Map is a map's leaves, in the order of its text.
type Map struct {
	leaves []leaf
}

// Zone is the zone of a point of the cube, or -1 if it is solid.
func (m Map) Zone(p api.Point) int {
	zone := solid
	for _, l := range m.leaves {
		if !l.region.Holds(p) {
			continue
		}
		if l.zone == solid {
			return solid
		}
		// On a plane the way goes to the upper tree, and that stands behind the lower one: so the last leaf counts.
		zone = l.zone
	}
	return zone
}

// Trace tells whether a point of the segment from p by d is solid, and the least t of such a point, in lowest terms.
// All coordinates are within space.Limits.
func (m Map) Trace(p api.Point, d api.Point) (bool, space.Fraction) {
	struck := false
	first := space.Fraction{}
	for _, l := range m.leaves {
		if l.zone != solid {
			continue
		}
		enters, t := l.region.Enter(p, d)
		if enters && (!struck || first.Above(t)) {
			struck = true
			first = t
		}
	}
	return struck, first
}
