package rewind_test

import (
	"math"
	"strings"
	"testing"

	"rewind/api"
)

func TestPacketNumbers(t *testing.T) {
	s := start(t, "0", at(0, 0, 0), at(9, 9, 9))
	still := at(0, 0, 0)
	send(t, s, 0, moving(5, still), api.OK)
	for _, seq := range []int{5, 4, 1} {
		send(t, s, 0, moving(seq, still), api.ErrStale)
	}
	send(t, s, 0, moving(6, still), api.OK)
	send(t, s, 0, moving(6, still), api.ErrStale)
	// Another client has its own numbers.
	send(t, s, 1, moving(1, still), api.OK)
	send(t, s, 1, moving(1, still), api.ErrStale)
	send(t, s, 0, moving(256, still), api.OK)
	send(t, s, 0, moving(255, still), api.ErrStale)
	play(t, s, 3)
	// What waits no more still counts.
	send(t, s, 0, moving(256, still), api.ErrStale)
	send(t, s, 0, moving(api.MaxSeq, still), api.OK)
	play(t, s, 1)
	send(t, s, 0, moving(api.MaxSeq, still), api.ErrStale)
	send(t, s, 0, moving(1, still), api.ErrStale)
}

func TestPacketErrorsInOrder(t *testing.T) {
	s := start(t, "0", at(0, 0, 0))
	still := at(0, 0, 0)
	wrong := []string{"", "C", moving(9, still)[:13], strings.Repeat("\x00", 14), unhex(t, "43 00 00 00 000000 000000 000000 43")}
	long := []string{moving(9, still) + "\x00", strings.Repeat("C", 15), strings.Repeat("C", 1<<20)}
	all := append(append([]string{moving(9, still), moving(1, still)}, wrong...), long...)
	for _, slot := range []int{-1, 1, 7, 8, 256, math.MaxInt, math.MinInt} {
		for _, p := range all {
			send(t, s, slot, p, api.ErrSlot)
		}
	}
	check := func() {
		t.Helper()
		for _, p := range wrong {
			send(t, s, 0, p, api.ErrPacket)
		}
		for _, p := range long {
			send(t, s, 0, p, api.ErrLong)
		}
	}
	check()
	for seq := 5; seq < 5+api.MaxQueue; seq++ {
		send(t, s, 0, moving(seq, still), api.OK)
	}
	check()
	// A full queue and a number that is not above: the number comes first.
	send(t, s, 0, moving(8, still), api.ErrStale)
	send(t, s, 0, moving(7, still), api.ErrStale)
	send(t, s, 0, moving(9, still), api.ErrQueue)
	send(t, s, 0, moving(api.MaxSeq, still), api.ErrQueue)
	// A refused number is not the last one.
	play(t, s, 1)
	send(t, s, 0, moving(8, still), api.ErrStale)
	send(t, s, 0, moving(9, still), api.OK)
}

func TestPacketsWaitInOrder(t *testing.T) {
	s := start(t, "0", at(1000, 1000, 1000), at(2000, 2000, 2000))
	steps := []api.Point{at(1, 0, 0), at(0, 2, 0), at(0, 0, 3), at(-4, 0, 0), at(0, -5, 0), at(0, 0, -6)}
	for i := 0; i < api.MaxQueue; i++ {
		send(t, s, 0, moving(i+1, steps[i]), api.OK)
	}
	send(t, s, 0, moving(99, at(31, 31, 31)), api.ErrQueue)
	place := at(1000, 1000, 1000)
	standsAt(t, s, 0, place)
	for i, step := range steps {
		play(t, s, 1)
		place = at(place.X+step.X, place.Y+step.Y, place.Z+step.Z)
		standsAt(t, s, 0, place)
		if next := i + api.MaxQueue; next < len(steps) {
			send(t, s, 0, moving(next+1, steps[next]), api.OK)
			send(t, s, 0, moving(99, at(31, 31, 31)), api.ErrQueue)
		}
	}
	play(t, s, 3)
	standsAt(t, s, 0, place)
	standsAt(t, s, 1, at(2000, 2000, 2000))
}

func TestQueuesAreApart(t *testing.T) {
	s := start(t, "0", at(100, 0, 0), at(200, 0, 0), at(300, 0, 0))
	for seq := 1; seq <= api.MaxQueue; seq++ {
		send(t, s, 0, moving(seq, at(1, 0, 0)), api.OK)
	}
	send(t, s, 0, moving(9, at(1, 0, 0)), api.ErrQueue)
	send(t, s, 2, moving(9, at(7, 0, 0)), api.OK)
	play(t, s, 1)
	standsAt(t, s, 0, at(101, 0, 0))
	standsAt(t, s, 1, at(200, 0, 0))
	standsAt(t, s, 2, at(307, 0, 0))
	disconnect(t, s, 2, api.OK)
	play(t, s, 4)
	standsAt(t, s, 0, at(104, 0, 0))
}
