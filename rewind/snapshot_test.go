package rewind_test

import (
	"math"
	"testing"

	"rewind/api"
)

func TestSnapshotExamples(t *testing.T) {
	s := start(t, "0", at(100, 200, 300))
	told(t, s, 0, "53 00 00 00 01 64 06 00 01 00 01 64 64 00 c8 00 2c 01")
}

func TestSnapshotWrongSlots(t *testing.T) {
	s := start(t, "0", at(0, 0, 0), at(1, 1, 1))
	for _, slot := range []int{-1, 2, 7, 8, 256, 257, -255, -256, math.MaxInt, math.MinInt, math.MaxInt32, math.MinInt32} {
		if b, e := s.Snapshot(slot); b != "" || e != api.ErrSlot {
			t.Errorf("P14: Snapshot(%d) = %x, %d, want nothing, %d", slot, b, e, api.ErrSlot)
		}
	}
}

func TestSnapshotTicks(t *testing.T) {
	s := start(t, "0", at(0, 0, 0))
	for i := 0; i <= api.MaxTick; i++ {
		b, e := s.Snapshot(0)
		if e != api.OK || len(b) != 18 || b[0] != 'S' || int(b[1]) != i%256 || int(b[2]) != i/256 {
			t.Fatalf("P14: Snapshot at the tick %d = %x, %d", i, b, e)
		}
		if i < api.MaxTick {
			play(t, s, 1)
		}
	}
}

func TestSnapshotPlaces(t *testing.T) {
	s := start(t, "0", at(4096, 0, 255), at(4095, 256, 257))
	told(t, s, 0, "53 0000 00 01 64 06 00 02 00 01 64 0010 0000 ff00 01 01 64 ff0f 0001 0101")
	told(t, s, 1, "53 0000 01 01 64 06 00 02 00 01 64 0010 0000 ff00 01 01 64 ff0f 0001 0101")
	disconnect(t, s, 0, api.OK)
	connect(t, s, at(0, 4096, 4096), 0)
	told(t, s, 0, "53 0000 00 01 64 06 00 01 00 02 64 0000 0010 0010")
}

func TestSnapshotReach(t *testing.T) {
	middle := at(2000, 2000, 2000)
	for _, c := range []struct {
		d    api.Point
		near bool
	}{
		{at(0, 0, 0), true},
		{at(1024, 0, 0), true}, {at(1025, 0, 0), false}, {at(1024, 1, 0), false}, {at(1024, 0, 1), false},
		{at(0, 1024, 0), true}, {at(0, 1025, 0), false}, {at(1, 1024, 0), false}, {at(0, 1024, 1), false},
		{at(0, 0, 1024), true}, {at(0, 0, 1025), false}, {at(1, 0, 1024), false}, {at(0, 1, 1024), false},
		// The sums of the squares are 2 below Reach times Reach, and 1 above it.
		{at(610, 607, 555), true}, {at(607, 555, 610), true}, {at(604, 600, 569), false}, {at(569, 604, 600), false},
		{at(1000, 1000, 1000), false}, {at(2000, 2000, 2000), false}, {at(591, 591, 591), true}, {at(592, 592, 592), false},
	} {
		for sign := 0; sign < 8; sign++ {
			d := c.d
			if sign&1 > 0 {
				d.X = -d.X
			}
			if sign&2 > 0 {
				d.Y = -d.Y
			}
			if sign&4 > 0 {
				d.Z = -d.Z
			}
			s := start(t, "0", middle, at(middle.X+d.X, middle.Y+d.Y, middle.Z+d.Z))
			if c.near {
				seen(t, s, 0, 0, 1)
				seen(t, s, 1, 0, 1)
			} else {
				seen(t, s, 0, 0)
				seen(t, s, 1, 1)
			}
		}
	}
	s := start(t, "0", at(0, 0, 0), at(4096, 4096, 4096))
	seen(t, s, 0, 0)
	seen(t, s, 1, 1)
}

// TestSnapshotZones: eight zones side by side, with every pair of zones or without it.
func TestSnapshotZones(t *testing.T) {
	const zones = "x10x08x0401x0c23x18x1445x1c67"
	place := func(zone int) api.Point { return at(64*zone+32, 0, 0) }
	for a := 0; a < 8; a++ {
		for b := 0; b < 8; b++ {
			pair := ";" + string(hexDigits[a]) + string(hexDigits[b])
			for _, m := range []string{zones, zones + pair, zones + pair + pair, zones + ";" + pair[2:] + pair[1:2]} {
				paired := m != zones
				s := start(t, m)
				for zone := 0; zone < 8; zone++ {
					connect(t, s, place(zone), zone)
				}
				for zone := 0; zone < 8; zone++ {
					want := []int{}
					for other := 0; other < 8; other++ {
						if other == zone || paired && (zone == a && other == b || zone == b && other == a) {
							want = append(want, other)
						}
					}
					seen(t, s, zone, want...)
				}
			}
		}
	}
}

func TestSnapshotPairsDoNotReachOn(t *testing.T) {
	s := start(t, "x10x08x0401x0c23x18x1445x1c67;01;12;77;40", at(32, 0, 0), at(96, 0, 0), at(160, 0, 0), at(224, 0, 0), at(288, 0, 0), at(352, 0, 0), at(480, 0, 0), at(481, 0, 0))
	seen(t, s, 0, 0, 1, 4)
	seen(t, s, 1, 0, 1, 2)
	seen(t, s, 2, 1, 2)
	seen(t, s, 3, 3)
	seen(t, s, 4, 0, 4)
	seen(t, s, 5, 5)
	seen(t, s, 6, 6, 7)
	seen(t, s, 7, 6, 7)
}

func TestSnapshotZoneOnPlane(t *testing.T) {
	s := start(t, "x8001", at(2047, 0, 0), at(2048, 0, 0), at(2049, 0, 0))
	seen(t, s, 0, 0)
	seen(t, s, 1, 1, 2)
	seen(t, s, 2, 1, 2)
	// Two leaves of one zone, with another between them.
	s = start(t, "x80x7f010", at(2031, 0, 0), at(2040, 0, 0), at(2048, 0, 0))
	seen(t, s, 0, 0, 2)
	seen(t, s, 1, 1)
	seen(t, s, 2, 0, 2)
}

func TestSnapshotFollowsMoves(t *testing.T) {
	s := start(t, "x8001", at(2040, 0, 0), at(2060, 0, 0), at(2040, 0, 1030))
	seen(t, s, 0, 0)
	seen(t, s, 2, 2)
	send(t, s, 0, moving(1, at(8, 0, 0)), api.OK)
	send(t, s, 2, moving(1, at(32, 0, -6)), api.OK)
	play(t, s, 1)
	seen(t, s, 0, 0, 1)
	seen(t, s, 1, 0, 1)
	seen(t, s, 2, 2)
	send(t, s, 2, moving(2, at(-24, 0, 0)), api.OK)
	play(t, s, 1)
	seen(t, s, 0, 0, 1, 2)
	seen(t, s, 1, 0, 1)
	told(t, s, 2, "53 0200 02 01 64 06 00 02 00 01 64 0008 0000 0000 02 01 64 0008 0000 0004")
}

func TestSnapshotChangesNothing(t *testing.T) {
	s := start(t, "x8001;01", at(2040, 0, 0), at(2060, 0, 0))
	send(t, s, 0, moving(1, at(1, 1, 1)), api.OK)
	before := everything(s)
	for i := 0; i < 5; i++ {
		if again := everything(s); again != before {
			t.Errorf("P2: a server told %s, and then, with no call between that changes it, %s", before, again)
		}
	}
}
