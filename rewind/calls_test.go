package rewind_test

import (
	"fmt"
	"math"
	"math/rand"
	"strings"
	"testing"

	"rewind/api"
	"rewind/rewind"
)

// What P1 and P2 say of every call.

func hardTexts() []string {
	return []string{
		"", "#", "0", "x8001;01", "x80#0", "x0000", "x80x8001#", "\x00", "\xff\xfe", "é", "x", "x8", "x80", "x80#", "0;", "0;0", "0;00;",
		strings.Repeat("x80", 200), strings.Repeat("x80", 170), strings.Repeat("x", 512), strings.Repeat(";", 512), strings.Repeat("#", 512),
		strings.Repeat("x80#", 128), strings.Repeat("x", 1<<24), strings.Repeat("\x00", 1<<24),
	}
}

func hardPoints() []api.Point {
	l := []api.Point{}
	for _, c := range []int{0, 1, -1, 2048, api.Size, api.Size + 1, api.MaxCoord, -api.MaxCoord, api.MaxCoord + 1, -api.MaxCoord - 1, math.MaxInt, math.MinInt} {
		l = append(l, at(c, c, c), at(c, 0, 0), at(0, c, 0), at(0, 0, c))
	}
	return l
}

func TestNoCallPanicsAndErrorsComeAlone(t *testing.T) {
	points := hardPoints()
	for _, m := range hardTexts() {
		mapError, place := rewind.Check(m)
		if mapError == api.OK && place != 0 {
			t.Errorf("P3: Check(%.40q) = OK, %d", m, place)
		}
		for _, p := range points {
			zone, e := rewind.Zone(m, p)
			if e != api.OK && zone != 0 || mapError != api.OK && e != mapError {
				t.Errorf("P1: Zone(%.40q, %v) = %d, %d, and Check says %d", m, p, zone, e, mapError)
			}
			for _, d := range points {
				in, up, low, e := rewind.Trace(m, p, d)
				if e != api.OK && (in || up != 0 || low != 0) || mapError != api.OK && e != mapError {
					t.Errorf("P1: Trace(%.40q, %v, %v) = %v, %d, %d, %d, and Check says %d", m, p, d, in, up, low, e, mapError)
				}
			}
		}
	}
}

func TestNoEnterPanicsAndErrorsComeAlone(t *testing.T) {
	points := hardPoints()
	r := rand.New(rand.NewSource(1))
	for _, p := range points {
		for _, d := range points {
			for i := 0; i < 40; i++ {
				lo, hi := points[r.Intn(len(points))], points[r.Intn(len(points))]
				in, up, low, e := rewind.Enter(p, d, lo, hi)
				if !in && (up != 0 || low != 0) || e != api.OK && in || e != api.OK && e != api.ErrArg || in && (up < 0 || low < 1 || up > low) {
					t.Errorf("P1: Enter(%v, %v, %v, %v) = %v, %d, %d, %d", p, d, lo, hi, in, up, low, e)
				}
			}
		}
	}
}

func hardNumbers() []int {
	return []int{0, 1, -1, 2, 127, 128, -128, -129, 255, 256, api.MaxTick, api.MaxTick + 1, api.Size, api.Size + 1, api.MaxSeq, api.MaxSeq + 1, api.MaxTime, api.MaxTime + 1, math.MaxInt, math.MinInt, math.MaxInt / 256, math.MinInt / 256}
}

func TestNoPosePanicsAndErrorsComeAlone(t *testing.T) {
	numbers := hardNumbers()
	for _, first := range numbers {
		for _, second := range numbers {
			for _, time := range numbers {
				c := at(second, first, time)
				for _, l := range [][]api.Record{{{Tick: first}, {Tick: second}}, {{Tick: first, At: c}}, {{Tick: 1}, {Tick: first, At: c}, {Tick: second}}} {
					p, e := rewind.Pose(l, time)
					if e != api.OK && (e != api.ErrArg || p != at(0, 0, 0)) {
						t.Errorf("P1: Pose(%v, %d) = %v, %d", l, time, p, e)
					}
				}
			}
		}
	}
}

func TestNoPacketPanicsAndErrorsComeAlone(t *testing.T) {
	numbers := hardNumbers()
	for _, a := range numbers {
		for _, b := range numbers {
			for _, c := range numbers {
				command := api.Command{Seq: a, Move: at(b, c, 0), Aim: at(0, b, c), Time: c}
				p, e := rewind.Encode(command)
				if e != api.OK && (e != api.ErrArg || p != "") || e == api.OK && len(p) != api.PacketSize {
					t.Errorf("P1: Encode(%v) = %x, %d", command, p, e)
				}
			}
		}
	}
	for _, p := range hardTexts() {
		want := api.ErrPacket
		if len(p) > api.PacketSize {
			want = api.ErrLong
		}
		refuseDecode(t, p, want)
	}
}

// answers asks every call that is built one question after the other, in the order given, and tells the answers in the order of the questions.
func answers(texts []string, points []api.Point, order []int) []string {
	l := make([]string, len(order))
	for _, i := range order {
		m, p, d := texts[i%len(texts)], points[i%len(points)], points[i/len(points)%len(points)]
		checked, place := rewind.Check(m)
		zone, zoneError := rewind.Zone(m, p)
		in, up, low, enterError := rewind.Enter(d, p, at(0, 0, 0), p)
		struck, solidUp, solidLow, traceError := rewind.Trace(m, p, d)
		stood, poseError := rewind.Pose([]api.Record{{Tick: 3, At: p}, {Tick: 5, At: d}}, i)
		packet, encodeError := rewind.Encode(api.Command{Seq: i, Fire: i%3 == 0, Move: at(i%300-128, 1, 2), Aim: at(-1, -2, -3), Time: 7 * i})
		command, decodeError := rewind.Decode(packet)
		l[i] = fmt.Sprint(checked, place, zone, zoneError, in, up, low, enterError, struck, solidUp, solidLow, traceError, stood, poseError, packet, encodeError, command, decodeError)
	}
	return l
}

func TestAnswersHangOnArgumentsAlone(t *testing.T) {
	r := rand.New(rand.NewSource(2))
	texts := hardTexts()
	for i := 0; i < 50; i++ {
		texts = append(texts, randomMapTree(r, 20).text())
	}
	points := hardPoints()
	for i := 0; i < 50; i++ {
		points = append(points, at(r.Intn(api.Size), r.Intn(api.Size), r.Intn(api.Size)))
	}
	forward := []int{}
	for i := 0; i < 5000; i++ {
		forward = append(forward, i)
	}
	first := answers(texts, points, forward)
	again := answers(texts, points, r.Perm(len(forward)))
	for i := range first {
		if first[i] != again[i] {
			t.Errorf("P2: question %d was answered %s, and in another order %s", i, first[i], again[i])
		}
	}
}
