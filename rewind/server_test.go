package rewind_test

import (
	"encoding/hex"
	"fmt"
	"strings"
	"testing"

	"rewind/api"
	"rewind/rewind"
)

// start is a server on a map, with clients at these places in the slots from 0 on.
func start(t *testing.T, m string, places ...api.Point) *rewind.Server {
	t.Helper()
	s, e := rewind.New(m)
	if s == nil || e != api.OK {
		t.Fatalf("P10: New(%q) = %v, %d, want a server", m, s, e)
	}
	for i, p := range places {
		connect(t, s, p, i)
	}
	return s
}

func connect(t *testing.T, s *rewind.Server, p api.Point, slot int) {
	t.Helper()
	if n, e := s.Connect(p); n != slot || e != api.OK {
		t.Fatalf("P11: Connect(%v) = %d, %d, want %d, 0", p, n, e, slot)
	}
}

func refuseConnect(t *testing.T, s *rewind.Server, p api.Point, want api.Errno) {
	t.Helper()
	if n, e := s.Connect(p); n != 0 || e != want {
		t.Errorf("P11: Connect(%v) = %d, %d, want 0, %d", p, n, e, want)
	}
}

func disconnect(t *testing.T, s *rewind.Server, slot int, want api.Errno) {
	t.Helper()
	if e := s.Disconnect(slot); e != want {
		t.Errorf("P11: Disconnect(%d) = %d, want %d", slot, e, want)
	}
}

func send(t *testing.T, s *rewind.Server, slot int, p string, want api.Errno) {
	t.Helper()
	if e := s.Packet(slot, p); e != want {
		t.Errorf("P12: Packet(%d, %.40x), %d bytes, = %d, want %d", slot, p, len(p), e, want)
	}
}

// moving is the packet with this number and move.
func moving(seq int, move api.Point) string {
	return bytesOf(api.Command{Seq: seq, Move: move})
}

func play(t *testing.T, s *rewind.Server, ticks int) {
	t.Helper()
	for i := 0; i < ticks; i++ {
		if e := s.Tick(); e != api.OK {
			t.Fatalf("P13: Tick = %d behind the tick %d", e, s.Now())
		}
	}
}

// told: the client of a slot is told this, in hexadecimal.
func told(t *testing.T, s *rewind.Server, slot int, want string) {
	t.Helper()
	b, e := s.Snapshot(slot)
	if h := hex.EncodeToString([]byte(b)); h != strings.ReplaceAll(want, " ", "") || e != api.OK {
		t.Errorf("P14: Snapshot(%d) = %s, %d, want %s", slot, h, e, want)
	}
}

// standsAt: the client of a slot is told that its player, which is live, is at p.
func standsAt(t *testing.T, s *rewind.Server, slot int, p api.Point) {
	t.Helper()
	b, e := s.Snapshot(slot)
	for i := 9; i+9 <= len(b) && e == api.OK; i += 9 {
		if int(b[i]) != slot {
			continue
		}
		x, y, z := int(b[i+3])+256*int(b[i+4]), int(b[i+5])+256*int(b[i+6]), int(b[i+7])+256*int(b[i+8])
		if at(x, y, z) != p || b[4] != 1 {
			t.Errorf("P13: at the tick %d slot %d stands at (%d, %d, %d), want %v", s.Now(), slot, x, y, z, p)
		}
		return
	}
	t.Errorf("P14: Snapshot(%d) = %x, %d does not tell of the slot's own player", slot, b, e)
}

// seen: the client of a slot is told of these slots.
func seen(t *testing.T, s *rewind.Server, slot int, want ...int) {
	t.Helper()
	b, e := s.Snapshot(slot)
	got := []int{}
	for i := 9; i+9 <= len(b); i += 9 {
		got = append(got, int(b[i]))
	}
	if fmt.Sprint(got) != fmt.Sprint(want) || e != api.OK || len(b) != 9+9*len(want) || int(b[8]) != len(want) {
		t.Errorf("P14: Snapshot(%d) = %x, %d tells of %v, want %v", slot, b, e, got, want)
	}
}

// everything is all that a server tells.
func everything(s *rewind.Server) string {
	l := []any{s.Now()}
	for slot := -1; slot <= api.Slots; slot++ {
		b, e := s.Snapshot(slot)
		l = append(l, fmt.Sprintf("%x", b), e)
	}
	return fmt.Sprint(l...)
}

func TestNewErrors(t *testing.T) {
	for _, m := range append(hardTexts(), "x80#0", "x0001", "x80x8000#", "0;08", "0;", strings.Repeat("0", 512), strings.Repeat("0", 513), "0"+strings.Repeat(";00", 170)+";", "0"+strings.Repeat(";00", 170), "0"+strings.Repeat(";00", 171)) {
		want, _ := rewind.Check(m)
		s, e := rewind.New(m)
		if e != want || (s == nil) != (want != api.OK) {
			t.Errorf("P10: New(%.40q) = %v, %d, and Check says %d", m, s, e, want)
		}
	}
	for _, c := range []struct {
		m string
		e api.Errno
	}{{"", api.ErrMap}, {"x80#", api.ErrMap}, {"x0000", api.ErrPlane}, {"x0000;", api.ErrMap}, {strings.Repeat("x", 513), api.ErrLong}} {
		if s, e := rewind.New(c.m); s != nil || e != c.e {
			t.Errorf("P10: New(%.40q) = %v, %d, want nil, %d", c.m, s, e, c.e)
		}
	}
}

func TestNewServer(t *testing.T) {
	for _, m := range []string{"0", "#", "x8001;01", "0" + strings.Repeat(";77", 170)} {
		s := start(t, m)
		if s.Now() != 0 {
			t.Errorf("P10: a new server is at the tick %d", s.Now())
		}
		for slot := -1; slot <= api.Slots; slot++ {
			if b, e := s.Snapshot(slot); b != "" || e != api.ErrSlot {
				t.Errorf("P10: Snapshot(%d) of a new server = %x, %d, want nothing, %d", slot, b, e, api.ErrSlot)
			}
			disconnect(t, s, slot, api.ErrSlot)
			send(t, s, slot, moving(1, at(0, 0, 0)), api.ErrSlot)
		}
		play(t, s, 1)
		if s.Now() != 1 {
			t.Errorf("P10: behind one tick it is the tick %d", s.Now())
		}
	}
}

func TestNilServer(t *testing.T) {
	var s *rewind.Server
	if s.Now() != 0 {
		t.Errorf("P10: Now of a server that is nil = %d", s.Now())
	}
	if e := s.Tick(); e != api.ErrServer {
		t.Errorf("P10: Tick of a server that is nil = %d", e)
	}
	if s.Now() != 0 {
		t.Errorf("P10: Now of a server that is nil, behind a Tick = %d", s.Now())
	}
	for _, p := range hardPoints() {
		refuseConnect(t, s, p, api.ErrServer)
	}
	for _, slot := range append(hardNumbers(), 3, 7, 8) {
		disconnect(t, s, slot, api.ErrServer)
		send(t, s, slot, moving(1, at(0, 0, 0)), api.ErrServer)
		send(t, s, slot, "", api.ErrServer)
		send(t, s, slot, strings.Repeat("C", 99), api.ErrServer)
		if b, e := s.Snapshot(slot); b != "" || e != api.ErrServer {
			t.Errorf("P10: Snapshot(%d) of a server that is nil = %x, %d", slot, b, e)
		}
	}
}

func TestServersAreApart(t *testing.T) {
	for _, m := range []string{"0", "x8001;01"} {
		a := start(t, m, at(2040, 5, 5), at(2050, 6, 6))
		b := start(t, m, at(2030, 7, 7))
		send(t, b, 0, moving(3, at(1, 2, 3)), api.OK)
		before := everything(b)
		send(t, a, 0, moving(9, at(9, 9, 9)), api.OK)
		send(t, a, 0, moving(10, at(9, 9, 9)), api.OK)
		play(t, a, 3)
		disconnect(t, a, 0, api.OK)
		connect(t, a, at(1, 1, 1), 0)
		connect(t, a, at(2, 2, 2), 2)
		if after := everything(b); after != before {
			t.Errorf("P2: what was done with one server changed another one from %s to %s", before, after)
		}
		send(t, b, 0, moving(4, at(1, 0, 0)), api.OK)
		play(t, b, 1)
		standsAt(t, b, 0, at(2031, 9, 10))
		connect(t, b, at(5, 5, 5), 1)
		told(t, b, 1, "53 0100 01 01 64 06 00 01 01 01 64 0500 0500 0500")
		told(t, a, 2, "53 0300 02 01 64 06 00 02 00 02 64 0100 0100 0100 02 01 64 0200 0200 0200")
	}
}

func TestNoServerCallPanicsAndErrorsChangeNothing(t *testing.T) {
	s := start(t, "x80#0", at(2050, 5, 5), at(2060, 6, 6), at(3000, 0, 0))
	disconnect(t, s, 1, api.OK)
	for i := 1; i <= api.MaxQueue; i++ {
		send(t, s, 0, moving(10*i, at(1, 0, 0)), api.OK)
	}
	before := everything(s)
	for _, slot := range append(hardNumbers(), 8) {
		if slot == 0 || slot == 2 {
			continue
		}
		disconnect(t, s, slot, api.ErrSlot)
		for _, p := range append(hardTexts(), moving(50, at(1, 1, 1))) {
			send(t, s, slot, p, api.ErrSlot)
		}
		if b, e := s.Snapshot(slot); b != "" || e != api.ErrSlot {
			t.Errorf("P14: Snapshot(%d) = %x, %d, want nothing, %d", slot, b, e, api.ErrSlot)
		}
	}
	for _, p := range hardTexts() {
		_, want := rewind.Decode(p)
		send(t, s, 0, p, want)
		send(t, s, 2, p, want)
	}
	for _, p := range hardPoints() {
		if p.X <= 2048 || p.X > api.Size || p.Y > api.Size || p.Z > api.Size {
			refuseConnect(t, s, p, api.ErrArg)
		}
	}
	send(t, s, 0, moving(40, at(1, 0, 0)), api.ErrStale)
	send(t, s, 0, moving(41, at(1, 0, 0)), api.ErrQueue)
	if after := everything(s); after != before {
		t.Errorf("P1: calls with errors changed what a server tells from %s to %s", before, after)
	}
	// Neither do the numbers and the commands that wait: 41 was refused, so it is still above the last number.
	play(t, s, 1)
	standsAt(t, s, 0, at(2051, 5, 5))
	send(t, s, 0, moving(41, at(1, 0, 0)), api.OK)
	send(t, s, 2, moving(1, at(0, 1, 0)), api.OK)
	play(t, s, 9)
	standsAt(t, s, 0, at(2055, 5, 5))
	standsAt(t, s, 2, at(3000, 1, 0))
	connect(t, s, at(3000, 0, 0), 1)
	told(t, s, 1, "53 0a00 01 01 64 06 00 03 00 01 64 0708 0500 0500 01 02 64 b80b 0000 0000 02 01 64 b80b 0100 0000")
}
