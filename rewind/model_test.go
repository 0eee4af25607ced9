package rewind_test

import (
	"math/big"
	"math/rand"
	"regexp"
	"strings"

	"rewind/api"
)

// What the document says of maps and segments, told a second time in other ways, for the tests to compare with.

func at(x, y, z int) api.Point { return api.Point{X: x, Y: y, Z: z} }

func coordinates(p api.Point) [3]int { return [3]int{p.X, p.Y, p.Z} }

// tree is a leaf ('#' or a digit) or a plane (a letter, a number, and two trees).
type tree struct {
	letter       byte
	number       int
	lower, upper *tree
}

const hexDigits = "0123456789abcdef"

func (n *tree) text() string {
	if n.lower == nil {
		return string(n.letter)
	}
	return string(n.letter) + string(hexDigits[n.number/16]) + string(hexDigits[n.number%16]) + n.lower.text() + n.upper.text()
}

// side is a half of the cube in which a tree lies: beyond a plane above it.
type side struct {
	plane *tree
	lower bool
}

// firstWrongPlane goes through the planes in the order of the text, n being the number of this one, and tells the next number and the first wrong one (or -1).
func (n *tree) firstWrongPlane(number int, above []side) (int, int) {
	if n.lower == nil {
		return number, -1
	}
	wrong := -1
	if n.number == 0 {
		wrong = number
	}
	for _, s := range above {
		if s.plane.letter == n.letter && (s.lower && n.number >= s.plane.number || !s.lower && n.number <= s.plane.number) {
			wrong = number
		}
	}
	next, below := n.lower.firstWrongPlane(number+1, append(append([]side{}, above...), side{n, true}))
	if wrong < 0 {
		wrong = below
	}
	next, below = n.upper.firstWrongPlane(next, append(append([]side{}, above...), side{n, false}))
	if wrong < 0 {
		wrong = below
	}
	return next, wrong
}

type spot [3]*big.Rat

func spotOf(p api.Point) spot {
	s := spot{}
	for i, c := range coordinates(p) {
		s[i] = big.NewRat(int64(c), 1)
	}
	return s
}

func spotAt(p, d api.Point, t *big.Rat) spot {
	s := spotOf(p)
	for i, c := range coordinates(d) {
		way := new(big.Rat).Mul(t, big.NewRat(int64(c), 1))
		s[i].Add(s[i], way)
	}
	return s
}

func (s spot) in(lo, hi api.Point) bool {
	l, h := spotOf(lo), spotOf(hi)
	for i := range s {
		if s[i].Cmp(l[i]) < 0 || s[i].Cmp(h[i]) > 0 {
			return false
		}
	}
	return true
}

func (n *tree) compare(s spot) int {
	return s[n.letter-'x'].Cmp(big.NewRat(int64(n.number)*16, 1))
}

// solid: a spot of the cube on a plane belongs to both sides of it.
func (n *tree) solid(s spot) bool {
	if n.lower == nil {
		return n.letter == '#'
	}
	c := n.compare(s)
	return c <= 0 && n.lower.solid(s) || c >= 0 && n.upper.solid(s)
}

func (n *tree) zone(s spot) int {
	if n.solid(s) {
		return -1
	}
	for n.lower != nil {
		if n.compare(s) < 0 {
			n = n.lower
		} else {
			n = n.upper
		}
	}
	return int(n.letter - '0')
}

// crossings: the t from 0 to 1 at which the segment meets a coordinate of the axis.
func crossings(p, d api.Point, axis int, coordinate int) []*big.Rat {
	if coordinates(d)[axis] == 0 {
		return nil
	}
	t := big.NewRat(int64(coordinate-coordinates(p)[axis]), int64(coordinates(d)[axis]))
	if t.Sign() < 0 || t.Cmp(big.NewRat(1, 1)) > 0 {
		return nil
	}
	return []*big.Rat{t}
}

func (n *tree) planeCrossings(p, d api.Point) []*big.Rat {
	if n.lower == nil {
		return nil
	}
	l := crossings(p, d, int(n.letter-'x'), n.number*16)
	l = append(l, n.lower.planeCrossings(p, d)...)
	return append(l, n.upper.planeCrossings(p, d)...)
}

// trace: a segment can first be solid only where it begins or meets a plane or a border of the cube.
func (n *tree) trace(p, d api.Point) (bool, int, int) {
	l := append([]*big.Rat{new(big.Rat)}, n.planeCrossings(p, d)...)
	for axis := 0; axis < 3; axis++ {
		l = append(l, crossings(p, d, axis, 0)...)
		l = append(l, crossings(p, d, axis, api.Size)...)
	}
	solids := []*big.Rat{}
	for _, t := range l {
		s := spotAt(p, d, t)
		if s.in(at(0, 0, 0), at(api.Size, api.Size, api.Size)) && n.solid(s) {
			solids = append(solids, t)
		}
	}
	return least(solids)
}

// enter: a segment can first be in a box only where it begins or meets the plane of a border.
func enter(p, d, lo, hi api.Point) (bool, int, int) {
	l := []*big.Rat{new(big.Rat)}
	for axis := 0; axis < 3; axis++ {
		l = append(l, crossings(p, d, axis, coordinates(lo)[axis])...)
		l = append(l, crossings(p, d, axis, coordinates(hi)[axis])...)
	}
	inside := []*big.Rat{}
	for _, t := range l {
		if spotAt(p, d, t).in(lo, hi) {
			inside = append(inside, t)
		}
	}
	return least(inside)
}

func least(l []*big.Rat) (bool, int, int) {
	if len(l) == 0 {
		return false, 0, 0
	}
	first := l[0]
	for _, t := range l {
		if t.Cmp(first) < 0 {
			first = t
		}
	}
	return true, int(first.Num().Int64()), int(first.Denom().Int64())
}

// randomTree is a tree whose planes lie strictly inside, but for a plane in so many (0: none).
func randomTree(r *rand.Rand, planes int, lo, hi [3]int, wrongIn int) *tree {
	axis := r.Intn(3)
	if planes == 0 || r.Intn(8) == 0 || hi[axis]-lo[axis] < 2 {
		return &tree{letter: "###01234567"[r.Intn(11)]}
	}
	number := lo[axis] + 1 + r.Intn(hi[axis]-lo[axis]-1)
	if wrongIn > 0 && r.Intn(wrongIn) == 0 {
		number = r.Intn(256)
	}
	lowerHi, upperLo := hi, lo
	lowerHi[axis], upperLo[axis] = number, number
	return &tree{
		letter: "xyz"[axis],
		number: number,
		lower:  randomTree(r, planes-1, lo, lowerHi, wrongIn),
		upper:  randomTree(r, planes-1, upperLo, hi, wrongIn),
	}
}

func randomMapTree(r *rand.Rand, wrongIn int) *tree {
	return randomTree(r, r.Intn(6), [3]int{}, [3]int{256, 256, 256}, wrongIn)
}

func (n *tree) planeNumbers() []int {
	if n.lower == nil {
		return nil
	}
	l := append([]int{n.number}, n.lower.planeNumbers()...)
	return append(l, n.upper.planeNumbers()...)
}

// randomCoordinate is often on a plane or a border, or next to one.
func randomCoordinate(r *rand.Rand, n *tree) int {
	l := n.planeNumbers()
	c := r.Intn(api.Size + 1)
	if len(l) > 0 && r.Intn(2) == 0 {
		c = 16*l[r.Intn(len(l))] + r.Intn(3) - 1
	}
	if r.Intn(8) == 0 {
		c = r.Intn(2) * api.Size
	}
	if c < 0 {
		return 0
	}
	return c
}

func randomPlace(r *rand.Rand, n *tree) api.Point {
	return at(randomCoordinate(r, n), randomCoordinate(r, n), randomCoordinate(r, n))
}

var (
	aPlane  = regexp.MustCompile(`[xyz][0-9a-f][0-9a-f]([#0-7A-L])([#0-7A-L])`)
	aWhole  = regexp.MustCompile(`^[#0-7A-L](;[0-7][0-7])*$`)
	heights = "ABCDEFGHIJKL"
)

// hasForm tells whether a text has the form of a map: it puts a letter for every plane that has both its trees, A for one with two leaves, B for one with an A, and so on up to MaxDepth.
func hasForm(m string) bool {
	if strings.ContainsAny(m, heights+"\n") {
		return false
	}
	for {
		next := aPlane.ReplaceAllStringFunc(m, func(plane string) string {
			height := 1 + max(strings.IndexByte(heights, plane[3]), strings.IndexByte(heights, plane[4]))
			if height == len(heights) {
				return "!"
			}
			return heights[height : height+1]
		})
		if next == m {
			return aWhole.MatchString(m)
		}
		m = next
	}
}
