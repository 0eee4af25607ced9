// Package chart: maps, and what they say of points and segments.
package chart

import (
	"rewind/api"
	"rewind/space"
)

// zones is how many zones a map can name, and solid stands for the zone of a leaf that has none.
const (
	zones = 8
	solid = -1
)

// leaf is a leaf of a tree.
type leaf struct {
	region space.Box
	zone   int
}

// Map is a map's leaves, in the order of its text, and its pairs of zones, each in both orders.
type Map struct {
	leaves []leaf
	paired [zones][zones]bool
}

// Sees tells whether two zones see each other.
func (m Map) Sees(a int, b int) bool {
	if a < 0 || a >= zones || b < 0 || b >= zones {
		return false
	}
	return a == b || m.paired[a][b]
}

// Zone is the zone of a point of the cube, or -1 if it is solid.
func (m Map) Zone(p api.Point) int {
	zone := solid
	for _, l := range m.leaves {
		if !l.region.Holds(p) {
			continue
		}
		if l.zone == solid {
			return solid
		}
		// On a plane the way goes to the upper tree, and that stands behind the lower one: so the last leaf counts.
		zone = l.zone
	}
	return zone
}

// Trace tells whether a point of the segment from p by d is solid, and the least t of such a point, in lowest terms.
// All coordinates are within space.Limits.
func (m Map) Trace(p api.Point, d api.Point) (bool, space.Fraction) {
	struck := false
	first := space.Fraction{}
	for _, l := range m.leaves {
		if l.zone != solid {
			continue
		}
		enters, t := l.region.Enter(p, d)
		if enters && (!struck || first.Above(t)) {
			struck = true
			first = t
		}
	}
	return struck, first
}
