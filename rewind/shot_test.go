package rewind_test

import (
	"strings"
	"testing"

	"rewind/api"
	"rewind/rewind"
)

// order: the client of a slot sends a command, whose number is one more than the tick.
func order(t *testing.T, s *rewind.Server, slot int, c api.Command) {
	t.Helper()
	c.Seq = s.Now() + 1
	send(t, s, slot, bytesOf(c), api.OK)
}

func fire(t *testing.T, s *rewind.Server, slot int, aim api.Point, time int) {
	t.Helper()
	order(t, s, slot, api.Command{Fire: true, Aim: aim, Time: time})
}

func step(t *testing.T, s *rewind.Server, slot int, move api.Point) {
	t.Helper()
	order(t, s, slot, api.Command{Move: move})
}

// lives: the client of a slot is told of its own player whether it is live, its health, its ammo, and the ticks that are missing behind its shot.
func lives(t *testing.T, s *rewind.Server, slot int, want [4]int) {
	t.Helper()
	b, e := s.Snapshot(slot)
	if e != api.OK || len(b) < 18 {
		t.Fatalf("P14: Snapshot(%d) = %x, %d", slot, b, e)
	}
	if got := [4]int{int(b[4]), int(b[5]), int(b[6]), int(b[7])}; got != want {
		t.Errorf("P15: at the tick %d slot %d has live, health, ammo and missing ticks %v, want %v", s.Now(), slot, got, want)
	}
}

// healthOf is the health of a slot's player.
func healthOf(t *testing.T, s *rewind.Server, slot int) int {
	t.Helper()
	b, e := s.Snapshot(slot)
	if e != api.OK || len(b) < 18 {
		t.Fatalf("P14: Snapshot(%d) = %x, %d", slot, b, e)
	}
	return int(b[5])
}

// healths: the players of the slots from 0 on have these healths.
func healths(t *testing.T, s *rewind.Server, want ...int) {
	t.Helper()
	for slot, n := range want {
		if h := healthOf(t, s, slot); h != n {
			t.Errorf("P15: at the tick %d slot %d has health %d, want %d", s.Now(), slot, h, n)
		}
	}
}

// oneShot: a player at p shoots once, at the tick 1, and leaves one at q with this health.
func oneShot(t *testing.T, m string, p, q, aim api.Point, health int) {
	t.Helper()
	s := start(t, m, p, q)
	fire(t, s, 0, aim, 0)
	play(t, s, 1)
	lives(t, s, 0, [4]int{1, 100, 5, 3})
	if h := healthOf(t, s, 1); h != health {
		t.Errorf("P15: on the map %q a shot from %v by the aim %v at one at %v leaves it with health %d, want %d", m, p, aim, q, h, health)
	}
}

const (
	whole = 100
	body  = 75
	head  = 40
)

func TestShotExamples(t *testing.T) {
	s := start(t, "0", at(1000, 1000, 1000), at(1400, 1000, 1000))
	send(t, s, 0, bytesOf(api.Command{Seq: 1, Fire: true, Aim: at(100, 0, 0), Time: 256}), api.OK)
	play(t, s, 1)
	told(t, s, 0, "53 01 00 00 01 64 05 03 02 00 01 64 e8 03 e8 03 e8 03 01 01 4b 78 05 e8 03 e8 03")
	for _, c := range []struct{ y, time, health int }{{1000, 512, whole}, {1040, 512, body}, {1040, 1024, whole}} {
		s := start(t, "0", at(1000, c.y, 1000), at(1400, 1000, 1000))
		for i := 1; i <= 4; i++ {
			step(t, s, 1, at(0, 20, 0))
			if i == 4 {
				fire(t, s, 0, at(100, 0, 0), c.time)
			}
			play(t, s, 1)
		}
		standsAt(t, s, 1, at(1400, 1080, 1000))
		healths(t, s, whole, c.health)
	}
}

// A shot without length is at one point: so it tells whether that is in the body, the head or neither.
func TestShotBodyAndHead(t *testing.T) {
	sides := []int{-9, -8, -7, -5, -4, -3, 0, 3, 4, 5, 7, 8, 9}
	for _, x := range sides {
		for _, y := range sides {
			for _, z := range []int{-17, -16, -15, -8, 0, 7, 8, 9, 15, 16, 17} {
				want := whole
				if max(x, -x, y, -y) <= 8 && z >= -16 && z <= 8 {
					want = body
				}
				if max(x, -x, y, -y) <= 4 && z >= 8 && z <= 16 {
					want = head
				}
				oneShot(t, "0", at(1000+x, 2000+y, 3000+z), at(1000, 2000, 3000), at(0, 0, 0), want)
			}
		}
	}
}

func TestShotRange(t *testing.T) {
	p := at(2050, 2050, 2050)
	for _, c := range []struct {
		q, aim api.Point
		health int
	}{
		{at(2074, 2050, 2050), at(1, 0, 0), body}, {at(2075, 2050, 2050), at(1, 0, 0), whole},
		{at(2026, 2050, 2050), at(-1, 0, 0), body}, {at(2025, 2050, 2050), at(-1, 0, 0), whole},
		{at(2050, 2074, 2050), at(0, 1, 0), body}, {at(2050, 2075, 2050), at(0, 1, 0), whole},
		{at(2050, 2026, 2050), at(0, -1, 0), body}, {at(2050, 2025, 2050), at(0, -1, 0), whole},
		{at(2050, 2050, 2082), at(0, 0, 1), body}, {at(2050, 2050, 2083), at(0, 0, 1), whole},
		{at(2050, 2050, 2018), at(0, 0, -1), head}, {at(2050, 2050, 2017), at(0, 0, -1), whole},
		{at(4090, 2050, 2050), at(127, 0, 0), body}, {at(4091, 2050, 2050), at(127, 0, 0), whole},
		{at(2050, 4090, 2050), at(0, 127, 0), body}, {at(2050, 4091, 2050), at(0, 127, 0), whole},
		{at(2050, 2050, 4096), at(0, 0, 127), body}, {at(2050, 2050, 4096), at(0, 0, 126), whole},
		{at(0, 2050, 2050), at(-128, 0, 0), body}, {at(0, 2050, 2050), at(-127, 0, 0), whole},
		{at(2050, 0, 2050), at(0, -128, 0), body}, {at(2050, 0, 2050), at(0, -127, 0), whole},
		{at(2050, 2050, 0), at(0, 0, -128), head}, {at(2050, 2050, 0), at(0, 0, -127), whole},
		// Behind the shooter.
		{at(2026, 2050, 2050), at(1, 0, 0), whole}, {at(2041, 2050, 2050), at(1, 0, 0), whole}, {at(2042, 2050, 2050), at(1, 0, 0), body},
	} {
		oneShot(t, "0", p, c.q, c.aim, c.health)
	}
}

func TestShotSlanting(t *testing.T) {
	p := at(1000, 1000, 1000)
	for _, c := range []struct {
		q, aim api.Point
		health int
	}{
		// It goes through the edge of the body, and closely by it.
		{at(1032, 1024, 1000), at(3, 4, 0), body}, {at(1033, 1024, 1000), at(3, 4, 0), whole}, {at(1032, 1023, 1000), at(3, 4, 0), whole},
		{at(1016, 1040, 1000), at(3, 4, 0), body}, {at(1015, 1040, 1000), at(3, 4, 0), whole}, {at(1016, 1041, 1000), at(3, 4, 0), whole},
		// It ends at a corner, or one short of it.
		{at(1056, 1040, 1048), at(3, 2, 2), body}, {at(1057, 1040, 1048), at(3, 2, 2), whole}, {at(1056, 1041, 1048), at(3, 2, 2), whole}, {at(1056, 1040, 1049), at(3, 2, 2), whole},
		{at(900, 1100, 1000), at(-7, 7, 0), body}, {at(900, 1116, 1000), at(-7, 7, 0), body}, {at(900, 1117, 1000), at(-7, 7, 0), whole},
	} {
		oneShot(t, "0", p, c.q, c.aim, c.health)
	}
}

func TestShotHeadOrBodyFirst(t *testing.T) {
	q := at(1000, 1000, 1000)
	for _, c := range []struct {
		p, aim api.Point
		health int
	}{
		// Along the border of both the wider body comes first; where it begins in both at once, the head is struck.
		{at(900, 1000, 1008), at(100, 0, 0), body}, {at(900, 1000, 1009), at(100, 0, 0), head}, {at(900, 1000, 1016), at(100, 0, 0), head}, {at(900, 1000, 1017), at(100, 0, 0), whole},
		{at(996, 1000, 1008), at(100, 0, 0), head}, {at(995, 1000, 1008), at(100, 0, 0), body}, {at(1004, 1000, 1008), at(-1, 0, 0), head}, {at(1005, 1000, 1008), at(-1, 0, 0), body},
		// From above.
		{at(1000, 1000, 1100), at(0, 0, -9), head}, {at(1004, 996, 1100), at(0, 0, -9), head}, {at(1005, 1000, 1100), at(0, 0, -9), body}, {at(1000, 1005, 1100), at(0, 0, -9), body}, {at(1008, 1008, 1100), at(0, 0, -9), body}, {at(1009, 1008, 1100), at(0, 0, -9), whole},
		// From below the body is always first, but from the border of both.
		{at(1000, 1000, 900), at(0, 0, 9), body}, {at(1000, 1000, 1007), at(0, 0, 9), body}, {at(1000, 1000, 1008), at(0, 0, 9), head}, {at(1000, 1000, 1008), at(0, 0, -9), head}, {at(1000, 1000, 1009), at(0, 0, -9), head},
		// Down to the edge where the head's side meets the body's top: both at once, or one ahead of the other.
		{at(956, 1000, 1048), at(10, 0, -10), head}, {at(956, 1000, 1047), at(10, 0, -10), body}, {at(956, 1000, 1049), at(10, 0, -10), head},
		{at(1000, 1044, 1048), at(0, -10, -10), head}, {at(1000, 1044, 1047), at(0, -10, -10), body},
	} {
		oneShot(t, "0", c.p, q, c.aim, c.health)
	}
}

func TestShotAtWalls(t *testing.T) {
	const (
		before  = "x800#"     // solid from x = 2048 on
		corner  = "x800y40#0" // solid from x = 2048 on, up to y = 1024
		upright = "z800y40#0" // the same, upwards
		thin    = "x7fx7e0#0" // solid from x = 2016 to 2032
		side    = "x01#0"     // solid up to x = 16
	)
	for _, c := range []struct {
		m         string
		p, q, aim api.Point
		health    int
	}{
		{before, at(2000, 1000, 1000), at(2040, 1000, 1000), at(9, 0, 0), body},
		{before, at(2047, 1000, 1000), at(2047, 1000, 1000), at(9, 0, 0), body},
		{before, at(2000, 1000, 1000), at(2040, 1120, 1000), at(3, 7, 0), body}, {before, at(2000, 1000, 1000), at(2040, 1121, 1000), at(3, 7, 0), whole},
		// Level with the wall, and behind it.
		{corner, at(2000, 1020, 1000), at(2055, 1028, 1000), at(9, 0, 0), body}, {corner, at(2000, 1020, 1000), at(2056, 1028, 1000), at(9, 0, 0), body}, {corner, at(2000, 1020, 1000), at(2057, 1028, 1000), at(9, 0, 0), whole},
		{corner, at(2000, 1024, 1000), at(2056, 1028, 1000), at(9, 0, 0), body}, {corner, at(2000, 1024, 1000), at(2057, 1028, 1000), at(9, 0, 0), whole}, {corner, at(2000, 1025, 1000), at(2057, 1028, 1000), at(9, 0, 0), body},
		{upright, at(1000, 1020, 2000), at(1000, 1028, 2064), at(0, 0, 9), body}, {upright, at(1000, 1020, 2000), at(1000, 1028, 2065), at(0, 0, 9), whole}, {upright, at(1000, 1025, 2000), at(1000, 1028, 2065), at(0, 0, 9), body},
		// The head is behind the wall's border: from above.
		{"z40y40#00", at(1000, 1022, 1100), at(1000, 1026, 1008), at(0, 0, -9), head}, {"z40y40#00", at(1000, 1022, 1100), at(1000, 1026, 1007), at(0, 0, -9), whole}, {"z40y40#00", at(1000, 1025, 1100), at(1000, 1026, 1007), at(0, 0, -9), head},
		{thin, at(2010, 100, 100), at(2040, 100, 100), at(9, 0, 0), whole}, {thin, at(2010, 100, 100), at(2015, 100, 100), at(9, 0, 0), body}, {thin, at(2050, 100, 100), at(2010, 100, 100), at(-9, 0, 0), whole}, {thin, at(2010, 100, 100), at(2033, 100, 100), at(0, 0, 0), whole},
		{thin, at(2007, 100, 100), at(2033, 100, 100), at(1, 0, 0), whole}, {thin, at(2033, 100, 100), at(2039, 100, 100), at(9, 0, 0), body},
		// Outside the cube nothing is solid: this one leaves it through y = 0, ahead of x = 16, and comes to the body from below, at (14, -4, 984).
		{side, at(40, 2, 900), at(17, 0, 1000), at(-13, -3, 42), body}, {side, at(40, 7, 900), at(17, 5, 1000), at(-13, -3, 42), whole},
		{"0", at(50, 0, 4094), at(0, 0, 4096), at(-4, 0, 1), head}, {"0", at(50, 50, 4096), at(50, 0, 4096), at(0, -16, 4), head},
	} {
		oneShot(t, c.m, c.p, c.q, c.aim, c.health)
	}
}

func TestShotOfSeveralTheFirst(t *testing.T) {
	far, near, shooter := at(1400, 1000, 1000), at(1300, 1000, 1000), at(1000, 1000, 1000)
	for _, c := range []struct {
		places []api.Point
		slot   int
		want   []int
	}{
		{[]api.Point{shooter, near, far}, 0, []int{whole, body, whole}},
		{[]api.Point{shooter, far, near}, 0, []int{whole, whole, body}},
		{[]api.Point{far, near, shooter}, 2, []int{whole, body, whole}},
		{[]api.Point{near, far, shooter}, 2, []int{body, whole, whole}},
		{[]api.Point{near, shooter, far}, 1, []int{body, whole, whole}},
		{[]api.Point{far, shooter, near}, 1, []int{whole, whole, body}},
		// Level: the lowest slot, also where a higher one would be struck at the head.
		{[]api.Point{far, far, shooter, far}, 2, []int{body, whole, whole, whole}},
		{[]api.Point{shooter, far, far, far}, 0, []int{whole, body, whole, whole}},
		{[]api.Point{far, near, near, shooter}, 3, []int{whole, body, whole, whole}},
		{[]api.Point{shooter, at(1400, 1000, 1000), at(1396, 1000, 990)}, 0, []int{whole, body, whole}},
		{[]api.Point{shooter, at(1396, 1000, 990), at(1400, 1000, 1000)}, 0, []int{whole, head, whole}},
		{[]api.Point{shooter, at(1397, 1000, 990), at(1400, 1000, 1000)}, 0, []int{whole, whole, body}},
		// The shooter is never struck itself.
		{[]api.Point{shooter, far}, 1, []int{whole, whole}},
		{[]api.Point{far, shooter, at(1000, 1100, 1000)}, 1, []int{body, whole, whole}},
		{[]api.Point{shooter, shooter, shooter}, 1, []int{body, whole, whole}},
		{[]api.Point{shooter, shooter, shooter}, 0, []int{whole, body, whole}},
	} {
		s := start(t, "0", c.places...)
		fire(t, s, c.slot, at(100, 0, 0), 0)
		play(t, s, 1)
		healths(t, s, c.want...)
	}
}

// One is entered through a side across x, at 132/960 of the way, the other through one across y, at 109/800, 110/800 (the same) or 111/800 of it.
func TestShotOfSeveralTheFirstByFractions(t *testing.T) {
	shooter, a := at(1000, 1000, 1000), at(1140, 1112, 1000)
	for _, c := range []struct {
		y      int
		bFirst bool
	}{{1117, true}, {1118, false}, {1119, false}} {
		s := start(t, "0", shooter, a, at(1136, c.y, 1000))
		fire(t, s, 0, at(60, 50, 0), 0)
		play(t, s, 1)
		if c.bFirst {
			healths(t, s, whole, whole, body)
		} else {
			healths(t, s, whole, body, whole)
		}
		s = start(t, "0", shooter, at(1136, c.y, 1000), a)
		fire(t, s, 0, at(60, 50, 0), 0)
		play(t, s, 1)
		if c.y <= 1118 {
			healths(t, s, whole, body, whole)
		} else {
			healths(t, s, whole, whole, body)
		}
	}
}

func TestShotOneBehindTheWallAndOneBefore(t *testing.T) {
	s := start(t, "x7fx7e0#0", at(2000, 100, 100), at(2040, 100, 100), at(2012, 100, 100), at(2040, 100, 100))
	fire(t, s, 0, at(9, 0, 0), 0)
	play(t, s, 1)
	healths(t, s, whole, whole, body, whole)
}

func TestShotCooldownAndAmmo(t *testing.T) {
	for wait := 1; wait <= 5; wait++ {
		s := start(t, "0", at(1000, 1000, 1000), at(1400, 1000, 1000))
		fire(t, s, 0, at(100, 0, 0), 0)
		play(t, s, 1)
		lives(t, s, 0, [4]int{1, 100, 5, 3})
		play(t, s, wait-1)
		fire(t, s, 0, at(100, 0, 0), 0)
		play(t, s, 1)
		if wait < api.Cooldown {
			lives(t, s, 0, [4]int{1, 100, 5, 3 - wait})
			healths(t, s, whole, body)
		} else {
			lives(t, s, 0, [4]int{1, 100, 4, 3})
			healths(t, s, whole, body-25)
		}
	}
	// Tick by tick: what is hindered does not count as a shot; and without ammo there is none, and nothing is missing.
	s := start(t, "0", at(1000, 1000, 1000), at(1400, 1000, 1000))
	ammo, missing := 6, 0
	for i := 1; i <= 30; i++ {
		fire(t, s, 0, at(0, 100, 0), 0)
		play(t, s, 1)
		missing = max(0, missing-1)
		if i%3 == 1 && ammo > 0 {
			ammo, missing = ammo-1, 3
		}
		lives(t, s, 0, [4]int{1, 100, ammo, missing})
	}
	fire(t, s, 0, at(100, 0, 0), 0)
	play(t, s, 1)
	lives(t, s, 0, [4]int{1, 100, 0, 0})
	healths(t, s, whole, whole)
}

func TestCooldownsAndAmmoAreApart(t *testing.T) {
	s := start(t, "0", at(1000, 1000, 1000), at(1400, 1000, 1000), at(1000, 1400, 1000))
	fire(t, s, 0, at(100, 0, 0), 0)
	play(t, s, 1)
	fire(t, s, 1, at(-100, 0, 0), 0)
	fire(t, s, 0, at(100, 0, 0), 0)
	play(t, s, 1)
	lives(t, s, 0, [4]int{1, 75, 5, 2})
	lives(t, s, 1, [4]int{1, 75, 5, 3})
	lives(t, s, 2, [4]int{1, 100, 6, 0})
}

// A shot with no fire in its command, or of a command that was refused, is none.
func TestShotOnlyOfCommandsTakenWithFire(t *testing.T) {
	s := start(t, "0", at(1000, 1000, 1000), at(1400, 1000, 1000))
	order(t, s, 0, api.Command{Aim: at(100, 0, 0)})
	play(t, s, 1)
	lives(t, s, 0, [4]int{1, 100, 6, 0})
	for _, seq := range []int{1, 0} {
		p := bytesOf(api.Command{Seq: seq, Fire: true, Aim: at(100, 0, 0)})
		want := api.ErrStale
		if seq == 0 {
			want = api.ErrPacket
		}
		send(t, s, 0, p, want)
	}
	good := bytesOf(api.Command{Seq: 2, Fire: true, Aim: at(100, 0, 0)})
	send(t, s, 0, sealed(good[:3]+"\x02"+good[4:13]), api.ErrPacket)
	send(t, s, 0, good[:13], api.ErrPacket)
	send(t, s, 0, good+"\x00", api.ErrLong)
	send(t, s, 2, good, api.ErrSlot)
	send(t, s, 0, strings.Repeat("C", 14), api.ErrPacket)
	play(t, s, 2)
	lives(t, s, 0, [4]int{1, 100, 6, 0})
	healths(t, s, whole, whole)
	// Commands of one client are taken one a tick, so that the second of these shots is hindered and the fourth is not.
	for seq := 2; seq <= 5; seq++ {
		send(t, s, 0, bytesOf(api.Command{Seq: seq, Fire: true, Aim: at(100, 0, 0)}), api.OK)
	}
	send(t, s, 0, bytesOf(api.Command{Seq: 6, Fire: true, Aim: at(100, 0, 0)}), api.ErrQueue)
	for i, want := range []int{body, body, body, body - 25, body - 25, body - 25, body - 25} {
		play(t, s, 1)
		lives(t, s, 0, [4]int{1, 100, []int{5, 5, 5, 4, 4, 4, 4}[i], []int{3, 2, 1, 3, 2, 1, 0}[i]})
		healths(t, s, whole, want)
	}
}

func TestShotIsGoneWithItsClient(t *testing.T) {
	s := start(t, "0", at(1000, 1000, 1000), at(1400, 1000, 1000))
	fire(t, s, 0, at(100, 0, 0), 0)
	disconnect(t, s, 0, api.OK)
	connect(t, s, at(1000, 1000, 1000), 0)
	play(t, s, 1)
	healths(t, s, whole, whole)
	// A new client has all ammo and no shot behind it, whatever the one ahead of it did.
	fire(t, s, 0, at(100, 0, 0), 0)
	play(t, s, 1)
	lives(t, s, 0, [4]int{1, 100, 5, 3})
	disconnect(t, s, 0, api.OK)
	connect(t, s, at(1000, 1000, 1000), 0)
	lives(t, s, 0, [4]int{1, 100, 6, 0})
	fire(t, s, 0, at(100, 0, 0), 0)
	play(t, s, 1)
	lives(t, s, 0, [4]int{1, 100, 5, 3})
	healths(t, s, whole, body-25)
}

// At a tick all have moved ahead of the first shot, the shooter too, and a shot changes no place.
func TestShotsFallBehindMoves(t *testing.T) {
	for _, c := range []struct {
		y, move, other, health int
		time                   int
	}{
		{1000, 0, 0, body, 256}, {1000, 9, 0, whole, 256}, {1020, -12, 0, body, 256}, {1000, 0, 9, whole, 256}, {1020, 0, 12, body, 256}, {1000, 20, 20, body, 256},
		// At the first tick there is no record ahead of the move.
		{1000, 0, 9, whole, 0}, {1020, 0, 12, body, 0},
	} {
		for shooter := 0; shooter < 2; shooter++ {
			places, aim := []api.Point{at(1000, c.y, 1000), at(1400, 1000, 1000)}, 100
			if shooter == 1 {
				places, aim = []api.Point{at(1000, 1000, 1000), at(1400, c.y, 1000)}, -100
			}
			s := start(t, "0", places...)
			order(t, s, shooter, api.Command{Fire: true, Move: at(0, c.move, 0), Aim: at(aim, 0, 0), Time: c.time})
			step(t, s, 1-shooter, at(0, c.other, 0))
			play(t, s, 1)
			standsAt(t, s, shooter, at(places[shooter].X, c.y+c.move, 1000))
			standsAt(t, s, 1-shooter, at(places[1-shooter].X, 1000+c.other, 1000))
			if h := healthOf(t, s, 1-shooter); h != c.health {
				t.Errorf("P13: a shot of slot %d from y = %d, with the moves %d and %d and the time %d, leaves health %d, want %d", shooter, c.y, c.move, c.other, c.time, h, c.health)
			}
		}
	}
	// One that is stopped by a wall shoots from where it stays.
	s := start(t, "x80#0", at(2060, 100, 100), at(2060, 300, 100))
	order(t, s, 0, api.Command{Fire: true, Move: at(-32, 20, 0), Aim: at(0, 100, 0)})
	play(t, s, 1)
	healths(t, s, whole, body)
}

// judgedAt: slot 1 connects at the tick come and goes by y = 20 each tick from 1000 on; a shot of slot 0 at the tick T with this time finds it at y.
func judgedAt(t *testing.T, come, T, time, y int) {
	t.Helper()
	for _, c := range []struct{ off, health int }{{-9, whole}, {-8, body}, {8, body}, {9, whole}} {
		s := start(t, "0", at(1000, y+c.off, 1000))
		play(t, s, come)
		connect(t, s, at(1400, 1000, 1000), 1)
		for s.Now() < T {
			step(t, s, 1, at(0, 20, 0))
			if s.Now() == T-1 {
				fire(t, s, 0, at(100, 0, 0), time)
			}
			play(t, s, 1)
		}
		if h := healthOf(t, s, 1); h != c.health {
			t.Errorf("P15: one that came at the tick %d, shot at from y = %d at the tick %d with the time %d, has health %d, want %d", come, y+c.off, T, time, h, c.health)
		}
	}
}

func TestShotTimes(t *testing.T) {
	for _, come := range []int{0, 3} {
		for _, T := range []int{1, 2, 15, 16, 17, 18, 19, 20, 21, 40} {
			if T <= come {
				continue
			}
			for _, time := range []int{0, 1, 255, 256, 257, 256*(T-16) - 257, 256*(T-16) - 256, 256*(T-16) - 1, 256 * (T - 16), 256*(T-16) + 1, 256*(T-16) + 13, 256*(T-16) + 256, 256*(T-16) + 400, 256*(T-1) - 1, 256 * (T - 1), 256*(T-1) + 100, 256*T - 1, 256 * T, 256*T + 1, 256 * (T + 1), 256 * (T + 16), api.MaxTime} {
				if time < 0 || time > api.MaxTime {
					continue
				}
				// Where it stood: from the first record, of the tick behind its coming, one step a tick.
				since := min(max(time, 256*(T-16), 256*(come+1)), 256*T) - 256*come
				judgedAt(t, come, T, time, 1000+20*since/256)
			}
		}
	}
}

func TestShotAtTheLastTick(t *testing.T) {
	s := start(t, "0", at(1000, 1000, 1000), at(1400, 1000, 1000))
	play(t, s, api.MaxTick-1)
	fire(t, s, 0, at(100, 0, 0), api.MaxTime)
	send(t, s, 0, bytesOf(api.Command{Seq: api.MaxSeq, Fire: true, Aim: at(100, 0, 0)}), api.OK)
	play(t, s, 1)
	healths(t, s, whole, body)
	before := everything(s)
	if e := s.Tick(); e != api.ErrEnd {
		t.Errorf("P13: Tick behind the last one = %d", e)
	}
	if after := everything(s); after != before {
		t.Errorf("P1: a refused tick changed %s to %s", before, after)
	}
}

// A shot leaves places, records and generations alone: the next one with an old time finds the same places.
func TestShotChangesNothingElse(t *testing.T) {
	s := start(t, "0", at(1000, 1020, 1000), at(1400, 1000, 1000), at(1000, 1020, 1100))
	for i := 1; i <= 7; i++ {
		step(t, s, 1, at(0, 20, 0))
		if i == 4 || i == 7 {
			fire(t, s, 0, at(100, 0, 0), 256)
		}
		play(t, s, 1)
	}
	told(t, s, 1, "53 0700 01 01 32 06 00 03 00 01 64 e803 fc03 e803 01 01 32 7805 7404 e803 02 01 64 e803 fc03 4c04")
	lives(t, s, 0, [4]int{1, 100, 4, 3})
	lives(t, s, 2, [4]int{1, 100, 6, 0})
}

func TestShotsOfServersAreApart(t *testing.T) {
	places := []api.Point{at(1000, 1000, 1000), at(1400, 1000, 1000)}
	a, b := start(t, "0", places...), start(t, "0", places...)
	fire(t, b, 0, at(100, 0, 0), 256)
	before := everything(b)
	for i := 0; i < 20; i++ {
		fire(t, a, 0, at(100, 0, 0), 256)
		step(t, a, 1, at(0, 1, 0))
		play(t, a, 1)
	}
	if after := everything(b); after != before {
		t.Errorf("P2: the shots of one server changed another one from %s to %s", before, after)
	}
	play(t, b, 1)
	lives(t, b, 0, [4]int{1, 100, 5, 3})
	healths(t, b, whole, body)
}
