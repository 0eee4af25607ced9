package rewind_test

import (
	"math"
	"math/rand"
	"strings"
	"testing"

	"rewind/api"
	"rewind/rewind"
)

type zoneCase struct {
	m    string
	p    api.Point
	zone int
	e    api.Errno
}

func runZones(t *testing.T, cases []zoneCase) {
	t.Helper()
	for _, c := range cases {
		if zone, e := rewind.Zone(c.m, c.p); zone != c.zone || e != c.e {
			t.Errorf("P4: Zone(%.60q, %v) = %d, %d, want %d, %d", c.m, c.p, zone, e, c.zone, c.e)
		}
	}
}

func TestZoneExamples(t *testing.T) {
	runZones(t, []zoneCase{
		{"x80#0", at(2048, 0, 0), -1, api.OK}, {"x8001", at(2048, 0, 0), 1, api.OK}, {"x8001", at(2047, 0, 0), 0, api.OK},
		{"0", at(4096, 4096, 4096), 0, api.OK}, {"0", at(4097, 0, 0), 0, api.ErrArg},
	})
}

func TestZoneOnPlanes(t *testing.T) {
	runZones(t, []zoneCase{
		{"y8034", at(9, 2047, 9), 3, api.OK}, {"y8034", at(9, 2048, 9), 4, api.OK}, {"z8034", at(9, 9, 2047), 3, api.OK}, {"z8034", at(9, 9, 2048), 4, api.OK},
		{"x80y8001y8023", at(2048, 2048, 0), 3, api.OK}, {"x80y8001y8023", at(2048, 2047, 0), 2, api.OK}, {"x80y8001y8023", at(2047, 2048, 0), 1, api.OK},
		{"x800#", at(2047, 0, 0), 0, api.OK}, {"x800#", at(2048, 0, 0), -1, api.OK}, {"x800#", at(2049, 0, 0), -1, api.OK},
		{"x80#0", at(2049, 0, 0), 0, api.OK}, {"x80#0", at(2047, 0, 0), -1, api.OK},
		// Only a corner of the solid leaf is level with the point.
		{"x80y80z80#123", at(2048, 2048, 2048), -1, api.OK}, {"x80y80z80#123", at(2048, 2048, 2049), 3, api.OK}, {"x80y80z80#123", at(2049, 2048, 2048), 3, api.OK},
		{"x80y80z80#123", at(2047, 2048, 2049), 2, api.OK}, {"x80y80z80#123", at(2047, 2047, 2049), 1, api.OK}, {"x80y80z80#123", at(0, 0, 0), -1, api.OK},
	})
}

func TestZoneBorders(t *testing.T) {
	for axis := 0; axis < 3; axis++ {
		for _, c := range []int{-1, 0, api.Size, api.Size + 1, math.MinInt, math.MaxInt, math.MinInt32, math.MaxInt32} {
			l := [3]int{5, 6, 7}
			l[axis] = c
			p := at(l[0], l[1], l[2])
			e := api.OK
			if c < 0 || c > api.Size {
				e = api.ErrArg
			}
			solid := -1
			zone := 6
			if e != api.OK {
				solid, zone = 0, 0
			}
			runZones(t, []zoneCase{{"6", p, zone, e}, {"#", p, solid, e}})
		}
	}
}

func TestZoneErrors(t *testing.T) {
	runZones(t, []zoneCase{
		{"", at(0, 0, 0), 0, api.ErrMap}, {"", at(-1, 0, 0), 0, api.ErrMap}, {"1;0", at(0, 0, 0), 0, api.ErrMap},
		{"x0011", at(0, 0, 0), 0, api.ErrPlane}, {"x0011", at(0, 4097, 0), 0, api.ErrPlane}, {"x80#x8011", at(0, 0, 0), 0, api.ErrPlane},
		{strings.Repeat("1", 513), at(0, 0, 0), 0, api.ErrLong}, {strings.Repeat("1", 513), at(0, 0, -5), 0, api.ErrLong},
	})
}

func TestZoneRandom(t *testing.T) {
	r := rand.New(rand.NewSource(5))
	for i := 0; i < 3000; i++ {
		n := randomMapTree(r, 0)
		p := randomPlace(r, n)
		runZones(t, []zoneCase{{n.text(), p, n.zone(spotOf(p)), api.OK}})
	}
}
