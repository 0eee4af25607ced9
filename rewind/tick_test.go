package rewind_test

import (
	"testing"

	"rewind/api"
)

// moves: on this map a player at p that wants to go this way stands at goal behind the next tick.
func moves(t *testing.T, m string, p, way, goal api.Point) {
	t.Helper()
	s := start(t, m, p)
	send(t, s, 0, moving(1, way), api.OK)
	standsAt(t, s, 0, p)
	play(t, s, 1)
	standsAt(t, s, 0, goal)
	play(t, s, 1)
	standsAt(t, s, 0, goal)
}

func TestMoveSteps(t *testing.T) {
	for axis := 0; axis < 3; axis++ {
		for way := -128; way <= 127; way++ {
			step := max(-api.MaxStep, min(way, api.MaxStep))
			d, goal := [3]int{}, [3]int{1000, 2000, 3000}
			d[axis] = way
			goal[axis] += step
			moves(t, "0", at(1000, 2000, 3000), at(d[0], d[1], d[2]), at(goal[0], goal[1], goal[2]))
		}
	}
	moves(t, "0", at(1000, 2000, 3000), at(33, -33, 5), at(1032, 1968, 3005))
	moves(t, "0", at(1000, 2000, 3000), at(-128, 7, 127), at(968, 2007, 3032))
}

func TestMoveBorders(t *testing.T) {
	for axis := 0; axis < 3; axis++ {
		for place := 0; place <= api.Size; place++ {
			if place == 40 {
				place = api.Size - 40
			}
			for _, way := range []int{-128, -32, -31, -1, 0, 1, 31, 32, 127} {
				p, d := [3]int{50, 60, 70}, [3]int{1, 2, 3}
				p[axis], d[axis] = place, way
				goal := [3]int{p[0] + d[0], p[1] + d[1], p[2] + d[2]}
				goal[axis] = max(0, min(place+max(-api.MaxStep, min(way, api.MaxStep)), api.Size))
				moves(t, "0", at(p[0], p[1], p[2]), at(d[0], d[1], d[2]), at(goal[0], goal[1], goal[2]))
			}
		}
	}
	moves(t, "0", at(3, 4090, 0), at(-4, 7, -1), at(0, 4096, 0))
}

func TestMoveAtWalls(t *testing.T) {
	p := at(2060, 5, 5)
	moves(t, "x80#0", p, at(-11, 1, 1), at(2049, 6, 6))
	// The wall's border is solid; and who is stopped on one axis stays on all.
	moves(t, "x80#0", p, at(-12, 1, 1), p)
	moves(t, "x80#0", p, at(-128, 1, 1), p)
	moves(t, "x80#0", p, at(0, 0, 0), p)
	moves(t, "x80#0", p, at(32, -9, 1), at(2092, 0, 6))
	moves(t, "x80#0", at(2049, 5, 5), at(0, 9, 9), at(2049, 14, 14))
	moves(t, "x80#0", at(2049, 5, 5), at(-1, 9, 9), at(2049, 5, 5))
	// Neither end is solid, but the way is: 16 wide, and with no width at all but a corner.
	moves(t, "x7fx7e0#0", at(2010, 0, 0), at(32, 0, 0), at(2010, 0, 0))
	moves(t, "x7fx7e0#0", at(2040, 0, 0), at(-32, 0, 0), at(2040, 0, 0))
	moves(t, "x80y801#1", at(2040, 2040, 9), at(20, 20, 0), at(2040, 2040, 9))
	moves(t, "x80y801#1", at(2040, 2040, 9), at(20, 7, 0), at(2060, 2047, 9))
	moves(t, "x80y801#1", at(2040, 2040, 9), at(9, 8, 0), at(2049, 2048, 9))
	moves(t, "x80y801#1", at(2040, 2040, 9), at(8, 8, 0), at(2040, 2040, 9))
	// Only the clipped way counts: the goal is at the wall's near side, or at the border of the cube.
	moves(t, "x84#0", at(2145, 5, 5), at(127, 0, 0), at(2177, 5, 5))
	moves(t, "x80#x830#", at(2063, 5, 5), at(127, 0, 0), at(2095, 5, 5))
	moves(t, "x80#x820#", at(2063, 5, 5), at(127, 0, 0), at(2063, 5, 5))
	moves(t, "xffy010##", at(4070, 5, 5), at(9, 0, -128), at(4079, 5, 0))
	moves(t, "xffy010##", at(4070, 5, 5), at(10, 0, -128), at(4070, 5, 5))
	// The goal is turned into the cube ahead of the way: a straight line to the border.
	moves(t, "x80#0", at(2060, 4, 0), at(-32, -32, 0), at(2060, 4, 0))
	moves(t, "x80y01#00", at(2052, 17, 0), at(-3, -32, 0), at(2049, 0, 0))
	moves(t, "x80y01#00", at(2052, 17, 0), at(-4, -32, 0), at(2052, 17, 0))
	moves(t, "x80y01#00", at(2064, 24, 0), at(-32, -7, 0), at(2032, 17, 0))
	moves(t, "x80y01#00", at(2064, 24, 0), at(-32, -8, 0), at(2064, 24, 0))
}

func TestMoveThroughZonesAndPlayers(t *testing.T) {
	s := start(t, "x8001", at(2040, 0, 0), at(2050, 0, 0))
	send(t, s, 0, moving(1, at(10, 0, 0)), api.OK)
	send(t, s, 1, moving(1, at(-10, 0, 0)), api.OK)
	play(t, s, 1)
	standsAt(t, s, 0, at(2050, 0, 0))
	standsAt(t, s, 1, at(2040, 0, 0))
	send(t, s, 0, moving(2, at(-10, 0, 0)), api.OK)
	play(t, s, 1)
	standsAt(t, s, 0, at(2040, 0, 0))
	standsAt(t, s, 1, at(2040, 0, 0))
}

func TestCommandsWithFireMove(t *testing.T) {
	s := start(t, "0", at(100, 100, 100))
	send(t, s, 0, bytesOf(api.Command{Seq: 1, Fire: true, Move: at(3, -4, 50), Aim: at(1, 1, 1), Time: 99}), api.OK)
	play(t, s, 1)
	standsAt(t, s, 0, at(103, 96, 132))
}

func TestEverySlotMovesOncePerTick(t *testing.T) {
	s := start(t, "0")
	for i := 0; i < api.Slots; i++ {
		connect(t, s, at(100*i+100, 0, 0), i)
		send(t, s, i, moving(1, at(i+1, 0, 0)), api.OK)
		send(t, s, i, moving(2, at(0, i+1, 0)), api.OK)
	}
	for i := 0; i < api.Slots; i++ {
		standsAt(t, s, i, at(100*i+100, 0, 0))
	}
	play(t, s, 1)
	for i := 0; i < api.Slots; i++ {
		standsAt(t, s, i, at(101*i+101, 0, 0))
	}
	play(t, s, 1)
	for i := 0; i < api.Slots; i++ {
		standsAt(t, s, i, at(101*i+101, i+1, 0))
	}
}

func TestLastTick(t *testing.T) {
	s := start(t, "0", at(0, 0, 0))
	for i := 1; i <= api.MaxTick; i++ {
		if i == api.MaxTick {
			send(t, s, 0, moving(1, at(1, 0, 0)), api.OK)
			send(t, s, 0, moving(2, at(1, 0, 0)), api.OK)
		}
		if e := s.Tick(); e != api.OK || s.Now() != i {
			t.Fatalf("P13: Tick = %d, and then it is the tick %d, want %d", e, s.Now(), i)
		}
	}
	for i := 0; i < 3; i++ {
		if e := s.Tick(); e != api.ErrEnd || s.Now() != api.MaxTick {
			t.Errorf("P13: Tick behind the last one = %d, and then it is the tick %d", e, s.Now())
		}
	}
	told(t, s, 0, "53 b80b 00 01 64 06 00 01 00 01 64 0100 0000 0000")
	// The other calls go on: the command that waits still waits.
	for seq := 3; seq <= 5; seq++ {
		send(t, s, 0, moving(seq, at(1, 0, 0)), api.OK)
	}
	send(t, s, 0, moving(6, at(1, 0, 0)), api.ErrQueue)
	connect(t, s, at(5, 5, 5), 1)
	seen(t, s, 1, 0, 1)
	disconnect(t, s, 0, api.OK)
	seen(t, s, 1, 1)
}
