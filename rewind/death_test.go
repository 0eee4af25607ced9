package rewind_test

import (
	"testing"

	"rewind/api"
	"rewind/rewind"
)

// The place of one that shoots along x at the head of another one, which was one step from its home.
var (
	hunter = at(1000, 1000, 1012)
	home   = at(1400, 990, 1000)
	above  = at(1400, 1000, 1500) // from here a shot down strikes the head too
	down   = at(0, 0, -100)
)

// killed is a game in which slot 1 moved away from its home at the tick 1, was struck at the head at the ticks 1 and 4, and so died at the tick 4.
func killed(t *testing.T, others ...api.Point) *rewind.Server {
	t.Helper()
	s := start(t, "0", append([]api.Point{hunter, home}, others...)...)
	step(t, s, 1, at(0, 10, 0))
	fire(t, s, 0, at(100, 0, 0), 256)
	play(t, s, 1)
	lives(t, s, 1, [4]int{1, 40, 6, 0})
	play(t, s, 2)
	fire(t, s, 0, at(100, 0, 0), 256)
	play(t, s, 1)
	lives(t, s, 1, [4]int{0, 0, 6, 0})
	return s
}

func TestDeathAndReturn(t *testing.T) {
	s := killed(t)
	for i := 4; i < 12; i++ {
		// It stays where it was struck; its client is told of it, and of the other; the other is not told of it.
		if i != s.Now() {
			t.Fatalf("it is the tick %d, want %d", s.Now(), i)
		}
		told(t, s, 1, "53 0"+string(hexDigits[i])+"00 01 00 00 06 00 02 00 01 64 e803 e803 f403 01 01 00 7805 e803 e803")
		seen(t, s, 0, 0)
		play(t, s, 1)
	}
	told(t, s, 1, "53 0c00 01 01 64 06 00 02 00 01 64 e803 e803 f403 01 02 64 7805 de03 e803")
	told(t, s, 0, "53 0c00 00 01 64 04 00 02 00 01 64 e803 e803 f403 01 02 64 7805 de03 e803")
	play(t, s, 9)
	told(t, s, 1, "53 1500 01 01 64 06 00 02 00 01 64 e803 e803 f403 01 02 64 7805 de03 e803")
}

// Health falls by what was struck, but not below 0, and at 0, not at 1, the player is dead.
func TestHealthFalls(t *testing.T) {
	for _, c := range []struct {
		shots string
		want  []int
	}{
		{"bbbb", []int{75, 50, 25, 0}},
		{"hh", []int{40, 0}},
		{"hbb", []int{40, 15, 0}},
		{"bhb", []int{75, 15, 0}},
		{"bbh", []int{75, 50, 0}},
		{"bbbh", []int{75, 50, 25, 0}},
		{"hbh", []int{40, 15, 0}},
	} {
		s := start(t, "0", at(1000, 1000, 1000), at(1400, 1000, 1000), above)
		for i, kind := range c.shots {
			if kind == 'b' {
				fire(t, s, 0, at(100, 0, 0), 0)
			} else {
				fire(t, s, 2, down, 0)
			}
			play(t, s, 1)
			live := 1
			if c.want[i] == 0 {
				live = 0
			}
			lives(t, s, 1, [4]int{live, c.want[i], 6, 0})
			play(t, s, 2)
		}
	}
}

// The dead move not: each of their commands is taken at its tick, and lost. The one of the tick of the return is the first to count.
func TestCommandsOfTheDead(t *testing.T) {
	s := killed(t)
	for i := 5; i <= 14; i++ {
		step(t, s, 1, at(i, 0, 0))
		play(t, s, 1)
		switch {
		case i < 12:
			told(t, s, 1, "53 0"+string(hexDigits[i])+"00 01 00 00 06 00 02 00 01 64 e803 e803 f403 01 01 00 7805 e803 e803")
		case i == 12:
			standsAt(t, s, 1, at(1412, 990, 1000))
		case i == 13:
			standsAt(t, s, 1, at(1425, 990, 1000))
		case i == 14:
			standsAt(t, s, 1, at(1439, 990, 1000))
		}
	}
}

func TestNumberAndQueueOfTheDead(t *testing.T) {
	s := start(t, "0", hunter, at(1400, 1000, 1000))
	for i := 1; i <= 4; i++ {
		fire(t, s, 0, at(100, 0, 0), 256)
		if i == 4 {
			for seq := 100; seq < 400; seq += 100 {
				send(t, s, 1, moving(seq, at(0, 0, 1)), api.OK)
			}
			send(t, s, 1, moving(400, at(0, 1, 0)), api.OK)
		}
		play(t, s, 1)
	}
	// Three wait, and the last number is 400.
	lives(t, s, 1, [4]int{0, 0, 6, 0})
	send(t, s, 1, moving(400, at(1, 0, 0)), api.ErrStale)
	send(t, s, 1, moving(500, at(1, 0, 0)), api.OK)
	send(t, s, 1, moving(501, at(1, 0, 0)), api.ErrQueue)
	play(t, s, 4)
	for seq := 600; seq <= 900; seq += 100 {
		send(t, s, 1, moving(seq, at(seq/100, 0, 0)), api.OK)
	}
	send(t, s, 1, moving(901, at(1, 0, 0)), api.ErrQueue)
	// The ticks 9, 10 and 11 take three of these; the fourth waits over the return, at the tick 12.
	play(t, s, 3)
	send(t, s, 1, moving(900, at(1, 0, 0)), api.ErrStale)
	lives(t, s, 1, [4]int{0, 0, 6, 0})
	play(t, s, 1)
	standsAt(t, s, 1, at(1409, 1000, 1000))
	send(t, s, 1, moving(900, at(1, 0, 0)), api.ErrStale)
	send(t, s, 1, moving(901, at(1, 0, 0)), api.OK)
	play(t, s, 2)
	standsAt(t, s, 1, at(1410, 1000, 1000))
}

// The dead keep their ammo and the ticks that are missing behind their shot, and shoot not; behind the return they have all ammo, and no shot behind them.
func TestAmmoOfTheDead(t *testing.T) {
	s := start(t, "0", hunter, at(1400, 1000, 1000))
	for i := 1; i <= 16; i++ {
		if i <= 4 {
			fire(t, s, 0, at(100, 0, 0), 256)
		}
		if i != 4 {
			fire(t, s, 1, at(-100, 0, 0), 0)
		}
		play(t, s, 1)
		switch {
		case i < 4:
			lives(t, s, 1, [4]int{1, 40, 5, 4 - i})
		case i < 12:
			lives(t, s, 1, [4]int{0, 0, 5, 0})
			healths(t, s, 75)
		case i < 15:
			// It shoots at the tick of its return.
			lives(t, s, 1, [4]int{1, 100, 5, 15 - i})
			healths(t, s, 50)
		default:
			lives(t, s, 1, [4]int{1, 100, 4, 18 - i})
			healths(t, s, 25)
		}
	}
	// Dead just behind its own shot, the ticks go on.
	s = start(t, "0", hunter, at(1400, 1000, 1000))
	for i := 1; i <= 8; i++ {
		fire(t, s, 0, at(100, 0, 0), 256)
		if i == 3 {
			fire(t, s, 1, at(0, 1, 0), 0)
		}
		play(t, s, 1)
		if i >= 4 {
			lives(t, s, 1, [4]int{0, 0, 5, max(0, 6-i)})
		}
	}
}

func TestTheDeadAreNotHit(t *testing.T) {
	// Slot 2 stands behind slot 1.
	s := killed(t, at(1500, 1000, 1000))
	healths(t, s, whole, 0, whole)
	for i := 5; i <= 11; i++ {
		fire(t, s, 0, at(100, 0, 0), []int{256, 1024, api.MaxTime}[i%3])
		play(t, s, 1)
		lives(t, s, 1, [4]int{0, 0, 6, 0})
	}
	healths(t, s, whole, 0, 0)
	// Neither did they die once more: slot 1 comes back at the tick 12, and slot 2, which died at the tick 10, at the tick 18.
	play(t, s, 1)
	healths(t, s, whole, whole, 0)
	play(t, s, 5)
	healths(t, s, whole, whole, 0)
	play(t, s, 1)
	healths(t, s, whole, whole, whole)
	told(t, s, 2, "53 1200 02 01 64 06 00 03 00 01 64 e803 e803 f403 01 02 64 7805 de03 e803 02 02 64 dc05 e803 e803")
}

// In one tick: who dies by the shot of a lower slot shoots no more, and who dies by that of a higher one has shot.
func TestDeathWithinATick(t *testing.T) {
	for first := 0; first < 2; first++ {
		// Both stand so that each strikes the other's body.
		s := start(t, "0", at(1000, 1000, 1000), at(1400, 1000, 1000))
		for i := 0; i < 4; i++ {
			fire(t, s, first, at(100-200*first, 0, 0), 0)
			if i == 3 {
				fire(t, s, 1-first, at(200*first-100, 0, 0), 0)
			}
			play(t, s, 1)
			if i < 3 {
				play(t, s, 2)
			}
		}
		lives(t, s, first, [4]int{1, []int{100, 75}[first], 2, 3})
		lives(t, s, 1-first, [4]int{0, 0, []int{6, 5}[first], []int{0, 3}[first]})
	}
}

func TestTwoShootAtEachOther(t *testing.T) {
	s := start(t, "0", at(1000, 1000, 1000), at(1400, 1000, 1000))
	for i := 0; i < 10; i++ {
		fire(t, s, 0, at(100, 0, 0), 0)
		fire(t, s, 1, at(-100, 0, 0), 0)
		play(t, s, 1)
	}
	// Four shots of slot 0, at the ticks 1, 4, 7 and 10; the fourth of slot 1 does not happen.
	lives(t, s, 0, [4]int{1, 25, 2, 3})
	lives(t, s, 1, [4]int{0, 0, 3, 0})
}

// The first of two shots kills, so that the second goes on to the one behind.
func TestShotGoesThroughOneThatDiedInThisTick(t *testing.T) {
	s := start(t, "0", above, hunter, at(1400, 1000, 1000), at(1500, 1000, 1000))
	fire(t, s, 0, down, 0)
	play(t, s, 3)
	fire(t, s, 0, down, 0)
	fire(t, s, 1, at(100, 0, 0), 0)
	play(t, s, 1)
	healths(t, s, whole, whole, 0, head)
}

func TestRecordsBeginAnewWithTheReturn(t *testing.T) {
	for _, c := range []struct{ y, time, health int }{
		// It was at 1000 from the tick 1 to its death at the tick 4, and at the tick of its return, 12, it is at 1020, one step from its home at 990.
		{1000, 256, whole}, {1000, 1024, whole}, {1000, 12 * 256, whole}, {990, 256, whole}, {990, 11 * 256, whole},
		{1020, 0, head}, {1020, 256, head}, {1020, 11 * 256, head}, {1020, 12 * 256, head}, {1020, 13*256 - 128, whole}, {1034, 13*256 - 128, head}, {1049, 13 * 256, head}, {1049, api.MaxTime, head},
	} {
		s := killed(t, at(1800, c.y, 1012))
		play(t, s, 7)
		step(t, s, 1, at(0, 30, 0))
		play(t, s, 1)
		step(t, s, 1, at(0, 30, 0))
		fire(t, s, 2, at(-100, 0, 0), c.time)
		play(t, s, 1)
		if h := healthOf(t, s, 1); h != c.health {
			t.Errorf("P16: a shot at the tick 13 from y = %d with the time %d leaves one that came back at the tick 12 with health %d, want %d", c.y, c.time, h, c.health)
		}
	}
}

func TestShotAtTheTickOfTheReturn(t *testing.T) {
	s := killed(t, at(1000, 990, 1012))
	play(t, s, 7)
	fire(t, s, 0, at(100, 0, 0), 256)
	fire(t, s, 2, at(100, 0, 0), 256)
	play(t, s, 1)
	// Slot 0 looks where slot 1 was in its life before, slot 2 where its home is.
	lives(t, s, 1, [4]int{1, 40, 6, 0})
}

func TestSecondDeath(t *testing.T) {
	s := start(t, "0", hunter, at(1400, 1000, 1000), above)
	for i := 1; i <= 36; i++ {
		fire(t, s, 0, at(100, 0, 0), 0)
		if i > 12 {
			fire(t, s, 2, down, 0)
		}
		play(t, s, 1)
		// Slot 0 shoots at the ticks 1, 4, 7, 10, 13, 16 and slot 2 at 13, 16, 19, 22, 25, 28: deaths at 4, 13 and 25, returns at 12, 21 and 33.
		dead := i >= 4 && i < 12 || i >= 13 && i < 21 || i >= 25 && i < 33
		b, e := s.Snapshot(1)
		if e != api.OK || (b[4] == 0) != dead {
			t.Errorf("P16: at the tick %d: %x, %d, want it dead: %v", i, b, e, dead)
		}
		generation := 1
		for _, back := range []int{12, 21, 33} {
			if i >= back {
				generation++
			}
		}
		if len(b) < 27 || b[18] != 1 || int(b[19]) != generation {
			t.Errorf("P16: at the tick %d: %x, want the generation %d", i, b, generation)
		}
	}
}

func TestTheDeadDisconnect(t *testing.T) {
	s := killed(t)
	play(t, s, 3)
	disconnect(t, s, 1, api.OK)
	play(t, s, 9)
	// Nobody comes back to a slot without a client.
	seen(t, s, 0, 0)
	disconnect(t, s, 1, api.ErrSlot)
	connect(t, s, at(1100, 900, 901), 1)
	told(t, s, 1, "53 1000 01 01 64 06 00 02 00 01 64 e803 e803 f403 01 02 64 4c04 8403 8503")
	// A new client in the slot of a dead one is live at once, and does not come back at the other's tick.
	s = killed(t)
	disconnect(t, s, 1, api.OK)
	connect(t, s, at(1100, 900, 901), 1)
	lives(t, s, 1, [4]int{1, 100, 6, 0})
	for i := 5; i <= 13; i++ {
		step(t, s, 1, at(0, 1, 0))
		play(t, s, 1)
		standsAt(t, s, 1, at(1100, 896+i, 901))
	}
	told(t, s, 1, "53 0d00 01 01 64 06 00 02 00 01 64 e803 e803 f403 01 02 64 4c04 8d03 8503")
}

// The generation goes on behind 255 by returns too.
func TestGenerationsOfTheReturned(t *testing.T) {
	s := start(t, "0", hunter, home)
	for i := 1; i < 255; i++ {
		disconnect(t, s, 1, api.OK)
		connect(t, s, at(1400, 1000, 1000), 1)
	}
	for i := 1; i <= 12; i++ {
		fire(t, s, 0, at(100, 0, 0), 0)
		play(t, s, 1)
	}
	told(t, s, 1, "53 0c00 01 01 64 06 00 02 00 01 64 e803 e803 f403 01 00 64 7805 e803 e803")
}

// Who is dead sees from where it lies, by zones and reach, and is seen by nobody.
func TestWhatTheDeadSee(t *testing.T) {
	s := start(t, "x8001", at(2000, 1000, 1012), at(2020, 1000, 1000), at(2040, 1000, 1000), at(2040, 2024, 1000), at(2040, 2025, 1000), at(2060, 1000, 1000))
	for i := 1; i <= 4; i++ {
		step(t, s, 1, at(i/2*10, 0, 0))
		fire(t, s, 0, at(100, 0, 0), 0)
		play(t, s, 1)
	}
	// Slot 1 lies beyond the plane.
	lives(t, s, 1, [4]int{0, 0, 6, 0})
	seen(t, s, 1, 1, 5)
	seen(t, s, 5, 5)
	seen(t, s, 0, 0, 2)
	seen(t, s, 2, 0, 2, 3)
	play(t, s, 8)
	seen(t, s, 1, 0, 1, 2)
	seen(t, s, 5, 5)
	seen(t, s, 2, 0, 1, 2, 3)
}

func TestDeathNearTheLastTick(t *testing.T) {
	for late := 0; late < 2; late++ {
		s := start(t, "0", hunter, at(1400, 1000, 1000))
		death := api.MaxTick - api.Respawn + late
		play(t, s, death-4)
		fire(t, s, 0, at(100, 0, 0), api.MaxTime)
		play(t, s, 3)
		fire(t, s, 0, at(100, 0, 0), api.MaxTime)
		play(t, s, api.MaxTick-death)
		lives(t, s, 1, [4]int{0, 0, 6, 0})
		play(t, s, 1)
		want := [4]int{1, 100, 6, 0}
		if late == 1 {
			want = [4]int{0, 0, 6, 0}
		}
		lives(t, s, 1, want)
		if e := s.Tick(); e != api.ErrEnd {
			t.Errorf("P13: Tick behind the last one = %d", e)
		}
		lives(t, s, 1, want)
	}
}
