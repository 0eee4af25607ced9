package game

import (
	"fmt"
	"testing"

	"rewind/api"
	"rewind/chart"
	"rewind/packet"
)

// What the promises say of dead players, of records and of the time behind a shot. No shot is built yet, so these tests reach into the game.

func start(t *testing.T, m string, places ...api.Point) Game {
	t.Helper()
	c, e, _ := chart.Read(m)
	if e != api.OK {
		t.Fatalf("%q is no map: %d", m, e)
	}
	g := New(c)
	for i, p := range places {
		if slot, e := g.Connect(p); slot != i || e != api.OK {
			t.Fatalf("P11: Connect(%v) = %d, %d, want %d", p, slot, e, i)
		}
	}
	return g
}

func send(t *testing.T, g *Game, slot int, seq int, move api.Point) {
	t.Helper()
	p, e := packet.Encode(api.Command{Seq: seq, Move: move})
	if e != api.OK {
		t.Fatalf("P8: Encode = %d", e)
	}
	if e := g.Packet(slot, p); e != api.OK {
		t.Fatalf("P12: Packet(%d, %x) = %d", slot, p, e)
	}
}

func play(t *testing.T, g *Game, ticks int) {
	t.Helper()
	for i := 0; i < ticks; i++ {
		if e := g.Tick(); e != api.OK {
			t.Fatalf("P13: Tick = %d", e)
		}
	}
}

func told(t *testing.T, g *Game, slot int, want string) {
	t.Helper()
	b, e := g.Snapshot(slot)
	if got := fmt.Sprintf("% x", b); got != want || e != api.OK {
		t.Errorf("P14: Snapshot(%d) = %s, %d, want %s", slot, got, e, want)
	}
}

func TestSnapshotOfTheDead(t *testing.T) {
	g := start(t, "0", api.Point{X: 1}, api.Point{X: 2}, api.Point{X: 3})
	g.seats[1].player.health = 0
	g.seats[1].player.ammo = 4
	g.seats[2].player.health = 40
	// The others are not told of it; its own client is, and of the others too.
	told(t, &g, 0, "53 00 00 00 01 64 06 00 02 00 01 64 01 00 00 00 00 00 02 01 28 03 00 00 00 00 00")
	told(t, &g, 1, "53 00 00 01 00 00 04 00 03 00 01 64 01 00 00 00 00 00 01 01 00 02 00 00 00 00 00 02 01 28 03 00 00 00 00 00")
	told(t, &g, 2, "53 00 00 02 01 28 06 00 02 00 01 64 01 00 00 00 00 00 02 01 28 03 00 00 00 00 00")
}

func TestTheDeadDoNotMove(t *testing.T) {
	g := start(t, "0", api.Point{X: 10}, api.Point{X: 20})
	for slot := 0; slot < 2; slot++ {
		send(t, &g, slot, 1, api.Point{X: 1})
		send(t, &g, slot, 2, api.Point{Y: 1})
	}
	g.seats[0].player.health = 0
	play(t, &g, 1)
	if g.seats[0].player.place != (api.Point{X: 10}) || g.seats[1].player.place != (api.Point{X: 21}) {
		t.Errorf("P13: the dead one stands at %v, the live one at %v", g.seats[0].player.place, g.seats[1].player.place)
	}
	// Its command was taken none the less.
	g.seats[0].player.health = 1
	play(t, &g, 2)
	if g.seats[0].player.place != (api.Point{X: 10, Y: 1}) {
		t.Errorf("P13: live again, and behind the second command, it stands at %v", g.seats[0].player.place)
	}
}

func TestSnapshotCooldown(t *testing.T) {
	const shot = 5
	g := start(t, "0", api.Point{X: 1})
	for tick := 0; tick < 12; tick++ {
		want := 0
		if tick == shot {
			g.seats[0].player.ready = shot + api.Cooldown
		}
		if tick >= shot && tick < shot+api.Cooldown {
			want = api.Cooldown - (tick - shot)
		}
		if b, e := g.Snapshot(0); e != api.OK || int(b[7]) != want {
			t.Errorf("P14: at the tick %d, with a shot at %d, %x, %d: want %d missing", tick, shot, b, e, want)
		}
		play(t, &g, 1)
	}
}

func poseIs(t *testing.T, g *Game, slot int, time int, x int) {
	t.Helper()
	if p := g.seats[slot].player.track.Pose(time); p != (api.Point{X: x}) {
		t.Errorf("P13: slot %d stood at the subtick %d at %v, want x = %d", slot, time, p, x)
	}
}

func TestRecordsOfTheLive(t *testing.T) {
	g := start(t, "0", api.Point{X: 100}, api.Point{X: 200})
	for i := 1; i <= 4; i++ {
		send(t, &g, 0, i, api.Point{X: 10})
		send(t, &g, 1, i, api.Point{X: 10})
	}
	play(t, &g, 2)
	g.seats[1].player.health = 0
	play(t, &g, 2)
	// The first record is of the first tick, behind its move.
	poseIs(t, &g, 0, 0, 110)
	poseIs(t, &g, 0, 256, 110)
	poseIs(t, &g, 0, 384, 115)
	poseIs(t, &g, 0, 1024, 140)
	poseIs(t, &g, 1, 512, 220)
	g.seats[1].player.place.X = 999
	poseIs(t, &g, 1, 1024, 220)
	// Who comes anew has no records of those ahead of it.
	g.Disconnect(0)
	if slot, e := g.Connect(api.Point{X: 7}); slot != 0 || e != api.OK {
		t.Fatalf("P11: Connect = %d, %d", slot, e)
	}
	play(t, &g, 1)
	poseIs(t, &g, 0, 256, 7)
	poseIs(t, &g, 0, 9999, 7)
}
