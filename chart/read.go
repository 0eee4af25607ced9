package chart

import (
	"rewind/api"
	"rewind/space"
)

// hexBase is the base of a plane's number.
const hexBase = 16

// none stands for the number of a plane, where there is no such plane.
const none = -1

// reader goes through a map's text once, and stops at the first byte that cannot stand where it is.
type reader struct {
	text   string
	place  int // of the byte that is read next
	planes int // how many have been read
	wrong  int // the number of the first plane that does not lie inside its region
	found  Map // what the text has told so far
}

// Read reads a map. With an error it tells the place of the wrong byte or the number of the wrong plane.
func Read(text string) (Map, api.Errno, int) {
	if len(text) > api.MaxMap {
		return Map{}, api.ErrLong, 0
	}
	r := reader{text: text, wrong: none}
	formed := r.readMap()
	if !formed {
		return Map{}, api.ErrMap, r.place
	}
	if r.wrong != none {
		return Map{}, api.ErrPlane, r.wrong
	}
	return r.found, api.OK, 0
}

// readMap reads the whole text. Like all that read here, it answers false if it could not go on at place.
func (r *reader) readMap() bool {
	cube := space.Cube()
	if !r.readTree(cube, 0) {
		return false
	}
	for r.place < len(r.text) {
		if !r.readPair() {
			return false
		}
	}
	return true
}

// readTree reads a tree that has this region and so many planes above it.
func (r *reader) readTree(region space.Box, above int) bool {
	if r.place >= len(r.text) {
		return false
	}
	c := r.text[r.place]
	if c == 'x' || c == 'y' || c == 'z' {
		return r.readPlane(region, above, c)
	}
	zone := solid
	if c == '#' {
		r.place++
	} else {
		digit, ok := r.readDigit(zones)
		if !ok {
			return false
		}
		zone = digit
	}
	r.found.leaves = append(r.found.leaves, leaf{region: region, zone: zone})
	return true
}

// readPlane reads a tree that begins with the letter of an axis.
func (r *reader) readPlane(region space.Box, above int, axis byte) bool {
	if above >= api.MaxDepth {
		return false
	}
	r.place++
	high, ok := r.readDigit(hexBase)
	if !ok {
		return false
	}
	low, ok := r.readDigit(hexBase)
	if !ok {
		return false
	}
	at := api.Grid * (hexBase*high + low)
	r.countPlane(region, axis, at)
	lower, upper := region.Cut(axis, at)
	if !r.readTree(lower, above+1) {
		return false
	}
	return r.readTree(upper, above+1)
}

// countPlane gives a plane its number. Reading goes on behind a wrong plane, as a wrong form counts first.
func (r *reader) countPlane(region space.Box, axis byte, at int) {
	inside := region.Inside(axis, at)
	if !inside && r.wrong == none {
		r.wrong = r.planes
	}
	r.planes++
}

// readPair reads a pair and the semicolon ahead of it.
func (r *reader) readPair() bool {
	if r.place >= len(r.text) || r.text[r.place] != ';' {
		return false
	}
	r.place++
	a, ok := r.readDigit(zones)
	if !ok {
		return false
	}
	b, ok := r.readDigit(zones)
	if !ok {
		return false
	}
	r.found.paired[a][b] = true
	r.found.paired[b][a] = true
	return true
}

// readDigit reads a digit whose value is below base.
func (r *reader) readDigit(base int) (int, bool) {
	if r.place >= len(r.text) {
		return 0, false
	}
	value, ok := digitValue(r.text[r.place])
	if !ok || value >= base {
		return 0, false
	}
	r.place++
	return value, true
}

// digitValue is the value of a digit in base 16, and whether c is one.
func digitValue(c byte) (int, bool) {
	if c >= '0' && c <= '9' {
		return int(c - '0'), true
	}
	if c >= 'a' && c <= 'f' {
		return int(c-'a') + 10, true
	}
	return 0, false
}
