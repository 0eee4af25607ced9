package rewind_test

import (
	"math"
	"math/rand"
	"testing"

	"rewind/api"
	"rewind/rewind"
)

type enterCase struct {
	p, d, lo, hi api.Point
	in           bool
	up, low      int
}

func runEnters(t *testing.T, cases []enterCase) {
	t.Helper()
	for _, c := range cases {
		if in, up, low, e := rewind.Enter(c.p, c.d, c.lo, c.hi); in != c.in || up != c.up || low != c.low || e != api.OK {
			t.Errorf("P5: Enter(%v, %v, %v, %v) = %v, %d, %d, %d, want %v, %d, %d, 0", c.p, c.d, c.lo, c.hi, in, up, low, e, c.in, c.up, c.low)
		}
	}
}

func TestEnterExamples(t *testing.T) {
	runEnters(t, []enterCase{
		{at(0, 0, 0), at(10, 0, 0), at(4, -1, -1), at(6, 1, 1), true, 2, 5},
		{at(0, 0, 0), at(4, 4, 0), at(4, -9, 0), at(9, 4, 0), true, 1, 1},
		{at(0, 0, 0), at(4, 5, 0), at(4, -9, 0), at(9, 4, 0), false, 0, 0},
		{at(5, 5, 5), at(0, 0, 0), at(5, 0, 0), at(9, 9, 9), true, 0, 1},
	})
}

func TestEnterEachAxis(t *testing.T) {
	lo, hi := at(-5, -5, -5), at(5, 5, 5)
	runEnters(t, []enterCase{
		{at(-20, 0, 0), at(40, 0, 0), lo, hi, true, 3, 8}, {at(20, 0, 0), at(-40, 0, 0), lo, hi, true, 3, 8},
		{at(0, -20, 0), at(0, 40, 0), lo, hi, true, 3, 8}, {at(0, 20, 0), at(0, -40, 0), lo, hi, true, 3, 8},
		{at(0, 0, -20), at(0, 0, 40), lo, hi, true, 3, 8}, {at(0, 0, 20), at(0, 0, -40), lo, hi, true, 3, 8},
		// Away from the box, too short, just long enough, beside it, along its border.
		{at(0, 0, 20), at(0, 0, 40), lo, hi, false, 0, 0}, {at(0, 0, 20), at(0, 0, -14), lo, hi, false, 0, 0}, {at(0, 0, 20), at(0, 0, -15), lo, hi, true, 1, 1},
		{at(6, 0, 20), at(0, 0, -40), lo, hi, false, 0, 0}, {at(0, -6, 20), at(0, 0, -40), lo, hi, false, 0, 0}, {at(-6, 0, 20), at(0, 0, -40), lo, hi, false, 0, 0},
		{at(5, -5, 20), at(0, 0, -40), lo, hi, true, 3, 8}, {at(20, 5, 5), at(-40, 0, 0), lo, hi, true, 3, 8},
		// It begins inside or on the border.
		{at(1, 2, 3), at(40, 0, 0), lo, hi, true, 0, 1}, {at(5, 5, 5), at(1, 1, 1), lo, hi, true, 0, 1}, {at(6, 5, 5), at(1, 0, 0), lo, hi, false, 0, 0},
		// It only meets an edge or a corner, and passes one by.
		{at(-10, 0, 0), at(10, 10, 0), lo, hi, true, 1, 2}, {at(-10, -1, 0), at(10, 10, 0), lo, hi, true, 1, 2}, {at(-10, 0, 0), at(10, 10, 0), at(-5, -5, -5), at(-5, 5, 5), true, 1, 2}, {at(-10, 1, 0), at(10, 10, 0), at(-5, -5, -5), at(-5, 5, 5), false, 0, 0},
		{at(-11, 0, 0), at(11, 11, 0), lo, hi, false, 0, 0}, {at(-10, 0, -10), at(10, 10, 10), lo, hi, true, 1, 2},
	})
}

func TestEnterGreatestNumbers(t *testing.T) {
	const m = api.MaxCoord
	runEnters(t, []enterCase{
		{at(-m, -m, -m), at(m, m, m), at(m, m, m), at(m, m, m), false, 0, 0},
		{at(-m, 0, 0), at(m, m, m), at(-1, -m, -m), at(m, m, m), true, m - 1, m},
		{at(m, -m, 0), at(-m, m-1, 0), at(0, -1, 0), at(0, -1, 0), true, 1, 1},
		{at(m, -m, 0), at(-m, m-1, 0), at(0, -m, 0), at(1, -1, 0), true, m - 1, m},
		{at(m, -m, 0), at(-m+1, m-2, 0), at(1, -1, 0), at(1, -1, 0), false, 0, 0},
		// Two fractions that differ by one in 2 to the power 40 or so.
		{at(0, 0, 0), at(m, m-1, 0), at(m-1, -m, 0), at(m, m-2, 0), false, 0, 0},
		{at(0, 0, 0), at(m-1, m, 0), at(m-2, -m, 0), at(m, m-1, 0), true, m - 2, m - 1},
		{at(0, 0, 0), at(0, -m+1, -m), at(0, -m, -m+1), at(0, -m+2, m), true, m - 2, m - 1},
		{at(0, 0, 0), at(0, -m, -m+1), at(0, -m, -m+2), at(0, -m+1, m), false, 0, 0},
		{at(-m, 0, 0), at(1, 0, 0), at(m, 0, 0), at(m, 0, 0), false, 0, 0},
		{at(m, 0, 0), at(-1, 0, 0), at(-m, 0, 0), at(-m, 0, 0), false, 0, 0},
	})
}

func TestEnterWrongNumbers(t *testing.T) {
	for argument := 0; argument < 4; argument++ {
		for axis := 0; axis < 3; axis++ {
			for _, c := range []int{-api.MaxCoord - 1, api.MaxCoord + 1, math.MinInt, math.MaxInt, math.MinInt + 1, math.MinInt32, math.MaxInt32} {
				l := [4][3]int{}
				l[argument][axis] = c
				refuseEnter(t, l)
			}
		}
	}
	for axis := 0; axis < 3; axis++ {
		l := [4][3]int{{}, {}, {1, 1, 1}, {1, 1, 1}}
		l[2][axis] = 2
		refuseEnter(t, l)
		l[2][axis] = api.MaxCoord
		l[3][axis] = -api.MaxCoord
		refuseEnter(t, l)
	}
}

func refuseEnter(t *testing.T, l [4][3]int) {
	t.Helper()
	a := [4]api.Point{}
	for i, c := range l {
		a[i] = at(c[0], c[1], c[2])
	}
	if in, up, low, e := rewind.Enter(a[0], a[1], a[2], a[3]); in || up != 0 || low != 0 || e != api.ErrArg {
		t.Errorf("P5: Enter(%v) = %v, %d, %d, %d, want false, 0, 0, %d", a, in, up, low, e, api.ErrArg)
	}
}

func randomPoint(r *rand.Rand, bound int) api.Point {
	return at(r.Intn(2*bound+1)-bound, r.Intn(2*bound+1)-bound, r.Intn(2*bound+1)-bound)
}

func TestEnterRandomBoxes(t *testing.T) {
	r := rand.New(rand.NewSource(6))
	for _, bound := range []int{2, 5, 40, api.MaxCoord} {
		for i := 0; i < 4000; i++ {
			a, b := randomPoint(r, bound), randomPoint(r, bound)
			c := enterCase{p: randomPoint(r, bound), d: randomPoint(r, bound)}
			c.lo = at(min(a.X, b.X), min(a.Y, b.Y), min(a.Z, b.Z))
			c.hi = at(max(a.X, b.X), max(a.Y, b.Y), max(a.Z, b.Z))
			c.in, c.up, c.low = enter(c.p, c.d, c.lo, c.hi)
			runEnters(t, []enterCase{c})
		}
	}
}

// Small boxes near a long segment, so that it passes close by as often as not.
func TestEnterRandomNearMisses(t *testing.T) {
	const half = api.MaxCoord / 2
	r := rand.New(rand.NewSource(8))
	hits := 0
	for i := 0; i < 8000; i++ {
		c := enterCase{p: randomPoint(r, half-9), d: randomPoint(r, half)}
		part := r.Intn(1001)
		c.lo = at(c.p.X+c.d.X*part/1000-r.Intn(3), c.p.Y+c.d.Y*part/1000-r.Intn(3), c.p.Z+c.d.Z*part/1000-r.Intn(3))
		c.hi = at(c.lo.X+r.Intn(3), c.lo.Y+r.Intn(3), c.lo.Z+r.Intn(3))
		c.in, c.up, c.low = enter(c.p, c.d, c.lo, c.hi)
		if c.in {
			hits++
		}
		runEnters(t, []enterCase{c})
	}
	if hits < 1000 || hits > 7000 {
		t.Errorf("of 8000 boxes %d are hit: too few or too many to tell much", hits)
	}
}
