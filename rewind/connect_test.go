package rewind_test

import (
	"math"
	"testing"

	"rewind/api"
)

func TestConnectSlots(t *testing.T) {
	s := start(t, "0")
	for i := 0; i < api.Slots; i++ {
		connect(t, s, at(i, 0, 0), i)
	}
	refuseConnect(t, s, at(0, 0, 0), api.ErrFull)
	for _, slot := range []int{6, 2, 4} {
		disconnect(t, s, slot, api.OK)
		disconnect(t, s, slot, api.ErrSlot)
	}
	for _, slot := range []int{2, 4, 6} {
		connect(t, s, at(10*slot, 0, 0), slot)
	}
	refuseConnect(t, s, at(0, 0, 0), api.ErrFull)
	for i := 0; i < api.Slots; i++ {
		want := at(i, 0, 0)
		if i == 2 || i == 4 || i == 6 {
			want = at(10*i, 0, 0)
		}
		standsAt(t, s, i, want)
		seen(t, s, i, 0, 1, 2, 3, 4, 5, 6, 7)
	}
}

func TestConnectBorders(t *testing.T) {
	for axis := 0; axis < 3; axis++ {
		for _, c := range []int{-1, 0, api.Size, api.Size + 1, math.MinInt, math.MaxInt, math.MinInt32, math.MaxInt32} {
			l := [3]int{5, 6, 7}
			l[axis] = c
			p := at(l[0], l[1], l[2])
			open, wall := start(t, "6"), start(t, "#")
			refuseConnect(t, wall, p, api.ErrArg)
			if c < 0 || c > api.Size {
				refuseConnect(t, open, p, api.ErrArg)
				continue
			}
			connect(t, open, p, 0)
			standsAt(t, open, 0, p)
		}
	}
}

func TestConnectBesideWalls(t *testing.T) {
	s := start(t, "x80y80z80#123")
	refuseConnect(t, s, at(0, 0, 0), api.ErrArg)
	refuseConnect(t, s, at(2048, 2048, 2048), api.ErrArg)
	refuseConnect(t, s, at(2048, 0, 2048), api.ErrArg)
	connect(t, s, at(2049, 2048, 2048), 0)
	connect(t, s, at(2048, 2049, 2048), 1)
	connect(t, s, at(2048, 2048, 2049), 2)
}

func TestConnectErrorsInOrder(t *testing.T) {
	s := start(t, "x80#0")
	for i := 0; i < api.Slots; i++ {
		connect(t, s, at(2049, 0, 0), i)
	}
	refuseConnect(t, s, at(2049, 0, 0), api.ErrFull)
	refuseConnect(t, s, at(2048, 0, 0), api.ErrArg)
	refuseConnect(t, s, at(4097, 0, 0), api.ErrArg)
	refuseConnect(t, s, at(3000, -1, 0), api.ErrArg)
}

func TestDisconnectWrongSlots(t *testing.T) {
	s := start(t, "0", at(0, 0, 0), at(1, 1, 1))
	for _, slot := range []int{-1, 2, 7, 8, 9, 256, 257, -255, -256, math.MaxInt, math.MinInt, math.MaxInt32, math.MinInt32} {
		disconnect(t, s, slot, api.ErrSlot)
	}
	disconnect(t, s, 1, api.OK)
	disconnect(t, s, 1, api.ErrSlot)
	disconnect(t, s, 0, api.OK)
	disconnect(t, s, 0, api.ErrSlot)
}

func TestDisconnectedIsGone(t *testing.T) {
	s := start(t, "0", at(10, 10, 10), at(20, 20, 20), at(30, 30, 30))
	send(t, s, 1, moving(7, at(1, 1, 1)), api.OK)
	disconnect(t, s, 1, api.OK)
	seen(t, s, 0, 0, 2)
	seen(t, s, 2, 0, 2)
	send(t, s, 1, moving(8, at(1, 1, 1)), api.ErrSlot)
	if b, e := s.Snapshot(1); b != "" || e != api.ErrSlot {
		t.Errorf("P14: Snapshot of a client that is gone = %x, %d", b, e)
	}
	play(t, s, 1)
	seen(t, s, 0, 0, 2)
}

func TestConnectBeginsAnew(t *testing.T) {
	s := start(t, "0", at(10, 10, 10), at(20, 20, 20))
	for seq := 1; seq <= api.MaxQueue; seq++ {
		send(t, s, 1, moving(1000*seq, at(5, 5, 5)), api.OK)
	}
	play(t, s, 1)
	send(t, s, 1, moving(api.MaxSeq, at(5, 5, 5)), api.OK)
	disconnect(t, s, 1, api.OK)
	connect(t, s, at(50, 50, 50), 1)
	// No command waits.
	play(t, s, 2)
	told(t, s, 1, "53 0300 01 01 64 06 00 02 00 01 64 0a00 0a00 0a00 01 02 64 3200 3200 3200")
	// The last number is 0, and there is room for all.
	for seq := 1; seq <= api.MaxQueue; seq++ {
		send(t, s, 1, moving(seq, at(1, 0, 0)), api.OK)
	}
	send(t, s, 1, moving(9, at(1, 0, 0)), api.ErrQueue)
	play(t, s, 5)
	standsAt(t, s, 1, at(54, 50, 50))
	standsAt(t, s, 0, at(10, 10, 10))
}

func TestGenerations(t *testing.T) {
	s := start(t, "0", at(1, 0, 0))
	for generation := 1; generation <= 600; generation++ {
		connect(t, s, at(2, 0, 0), 1)
		for slot, wants := range [][2]int{{1, generation}, {1, generation}} {
			b, e := s.Snapshot(slot)
			if e != api.OK || len(b) != 27 || int(b[10]) != wants[0] || int(b[19]) != wants[1]%256 {
				t.Fatalf("P11, P14: Snapshot(%d) = %x, %d, want the generations %d and %d", slot, b, e, wants[0], wants[1]%256)
			}
		}
		disconnect(t, s, 1, api.OK)
	}
	// A refused client is no generation, and each slot has its own.
	refuseConnect(t, s, at(-1, 0, 0), api.ErrArg)
	connect(t, s, at(2, 0, 0), 1)
	connect(t, s, at(2, 0, 0), 2)
	told(t, s, 2, "53 0000 02 01 64 06 00 03 00 01 64 0100 0000 0000 01 59 64 0200 0000 0000 02 01 64 0200 0000 0000")
}
