package rewind_test

import (
	"encoding/hex"
	"math"
	"math/rand"
	"strings"
	"testing"

	"rewind/api"
	"rewind/rewind"
)

func unhex(t *testing.T, s string) string {
	t.Helper()
	b, e := hex.DecodeString(strings.ReplaceAll(s, " ", ""))
	if e != nil {
		t.Fatal(e)
	}
	return string(b)
}

// bothWays: the packet of a command, and the command of that packet.
func bothWays(t *testing.T, c api.Command, packet string) {
	t.Helper()
	if p, e := rewind.Encode(c); p != packet || e != api.OK {
		t.Errorf("P8: Encode(%v) = %x, %d, want %x, 0", c, p, e, packet)
	}
	if d, e := rewind.Decode(packet); d != c || e != api.OK {
		t.Errorf("P9: Decode(%x) = %v, %d, want %v, 0", packet, d, e, c)
	}
}

func refuseEncode(t *testing.T, c api.Command) {
	t.Helper()
	if p, e := rewind.Encode(c); p != "" || e != api.ErrArg {
		t.Errorf("P8: Encode(%v) = %x, %d, want nothing, %d", c, p, e, api.ErrArg)
	}
}

func refuseDecode(t *testing.T, packet string, want api.Errno) {
	t.Helper()
	if c, e := rewind.Decode(packet); c != (api.Command{}) || e != want {
		t.Errorf("P9: Decode(%.40x), %d bytes, = %v, %d, want noughts, %d", packet, len(packet), c, e, want)
	}
}

// sealed is 13 bytes and their sum.
func sealed(b string) string {
	sum := 0
	for i := 0; i < len(b); i++ {
		sum += int(b[i])
	}
	return b + string([]byte{byte(sum % 256)})
}

func aCommand() api.Command {
	return api.Command{Seq: 1, Fire: true, Move: at(3, -2, 0), Aim: at(100, 0, -1), Time: 512}
}

func TestPacketExamples(t *testing.T) {
	bothWays(t, aCommand(), unhex(t, "43 01 00 01 03 fe 00 64 00 ff 00 02 00 ab"))
	bothWays(t, api.Command{Seq: 1}, unhex(t, "43 01 00 00 00 00 00 00 00 00 00 00 00 44"))
}

func TestPacketPlaceOfEachPart(t *testing.T) {
	for _, c := range []struct {
		c api.Command
		p string
	}{
		{api.Command{Seq: 0x0201}, "43 01 02 00 000000 000000 000000 46"},
		{api.Command{Seq: 0x0100}, "43 00 01 00 000000 000000 000000 44"},
		{api.Command{Seq: 0x00ff}, "43 ff 00 00 000000 000000 000000 42"},
		{api.Command{Seq: api.MaxSeq}, "43 ff ff 00 000000 000000 000000 41"},
		{api.Command{Seq: 1, Fire: true}, "43 01 00 01 000000 000000 000000 45"},
		{api.Command{Seq: 1, Move: at(1, 2, 3)}, "43 01 00 00 010203 000000 000000 4a"},
		{api.Command{Seq: 1, Aim: at(1, 2, 3)}, "43 01 00 00 000000 010203 000000 4a"},
		{api.Command{Seq: 1, Move: at(-128, 127, -1)}, "43 01 00 00 807fff 000000 000000 42"},
		{api.Command{Seq: 1, Aim: at(-1, -128, 127)}, "43 01 00 00 000000 ff807f 000000 42"},
		{api.Command{Seq: 1, Move: at(127, -127, -128), Aim: at(127, 126, -126)}, "43 01 00 00 7f8180 7f7e82 000000 43"},
		{api.Command{Seq: 1, Time: 0x030201}, "43 01 00 00 000000 000000 010203 4a"},
		{api.Command{Seq: 1, Time: 0x010000}, "43 01 00 00 000000 000000 000001 45"},
		{api.Command{Seq: 1, Time: api.MaxTime}, "43 01 00 00 000000 000000 ffffff 41"},
		{api.Command{Seq: 65535, Fire: true, Move: at(-1, -1, -1), Aim: at(-1, -1, -1), Time: api.MaxTime}, "43 ffff 01 ffffff ffffff ffffff 39"},
	} {
		bothWays(t, c.c, unhex(t, c.p))
	}
}

func TestPacketEveryCoordinate(t *testing.T) {
	zero := "\x43\x01\x00\x00\x00\x00\x00\x00\x00\x00\x00\x00\x00"
	for n := -128; n <= 127; n++ {
		code := n
		if n < 0 {
			code = n + 256
		}
		for i := 0; i < 6; i++ {
			c := [6]int{}
			c[i] = n
			b := []byte(zero)
			b[4+i] = byte(code)
			bothWays(t, api.Command{Seq: 1, Move: at(c[0], c[1], c[2]), Aim: at(c[3], c[4], c[5])}, sealed(string(b)))
		}
	}
}

func TestPacketEverySeq(t *testing.T) {
	for n := 1; n <= api.MaxSeq; n++ {
		bothWays(t, api.Command{Seq: n}, sealed("C"+string([]byte{byte(n % 256), byte(n / 256)})+strings.Repeat("\x00", 10)))
	}
}

func TestEncodeWrongCommands(t *testing.T) {
	refuseEncode(t, api.Command{})
	for _, n := range []int{0, -1, -255, -256, -65535, api.MaxSeq + 1, api.MaxSeq + 2, math.MinInt, math.MaxInt, math.MinInt32, math.MaxInt32} {
		c := aCommand()
		c.Seq = n
		refuseEncode(t, c)
	}
	for _, n := range []int{-1, -256, api.MaxTime + 1, api.MaxTime + 2, math.MinInt, math.MaxInt, math.MinInt32, math.MaxInt32} {
		c := aCommand()
		c.Time = n
		refuseEncode(t, c)
	}
	for _, n := range []int{-129, 128, 255, 256, -256, math.MinInt, math.MaxInt, math.MinInt32, math.MaxInt32} {
		for i := 0; i < 6; i++ {
			l := [6]int{}
			l[i] = n
			c := aCommand()
			c.Move, c.Aim = at(l[0], l[1], l[2]), at(l[3], l[4], l[5])
			refuseEncode(t, c)
		}
	}
}

func TestDecodeWrongLengths(t *testing.T) {
	packet, _ := rewind.Encode(aCommand())
	for n := 0; n < api.PacketSize; n++ {
		refuseDecode(t, packet[:n], api.ErrPacket)
		refuseDecode(t, packet[n+1:], api.ErrPacket)
		// A sum at the end of fewer bytes makes no packet.
		if n < api.PacketSize-1 {
			refuseDecode(t, sealed(packet[:n]), api.ErrPacket)
		}
	}
	for _, more := range []string{"\x00", "C", "\n", packet, strings.Repeat("\x00", 1<<24)} {
		refuseDecode(t, packet+more, api.ErrLong)
		refuseDecode(t, more+packet, api.ErrLong)
	}
	// Too long counts ahead of wrong bytes.
	for _, n := range []int{15, 16, 28, 256, 1 << 16} {
		refuseDecode(t, strings.Repeat("\x00", n), api.ErrLong)
		refuseDecode(t, strings.Repeat("x", n), api.ErrLong)
	}
}

// One byte that is changed breaks the sum, whichever it is.
func TestDecodeEveryChangedByte(t *testing.T) {
	packet, _ := rewind.Encode(aCommand())
	for i := 0; i < api.PacketSize; i++ {
		for c := 0; c < 256; c++ {
			b := []byte(packet)
			if b[i] == byte(c) {
				continue
			}
			b[i] = byte(c)
			refuseDecode(t, string(b), api.ErrPacket)
		}
	}
}

// One byte is changed and the sum mended: what is left is wrong only for what the byte says.
func TestDecodeEveryByteWithItsSum(t *testing.T) {
	for _, fire := range []bool{false, true} {
		whole := aCommand()
		whole.Fire = fire
		packet, _ := rewind.Encode(whole)
		for i := 0; i < api.PacketSize-1; i++ {
			for c := 0; c < 256; c++ {
				b := []byte(packet[:api.PacketSize-1])
				b[i] = byte(c)
				changed := sealed(string(b))
				wrong := i == 0 && c != 'C' || i == 1 && c == 0 || i == 3 && c > 1
				if wrong {
					refuseDecode(t, changed, api.ErrPacket)
					continue
				}
				command, e := rewind.Decode(changed)
				if e != api.OK {
					t.Errorf("P9: Decode(%x) = %v, %d, want a command", changed, command, e)
				}
				bothWays(t, command, changed)
			}
		}
	}
}

func TestDecodeWrongPackets(t *testing.T) {
	for _, p := range []string{
		"43 00 00 00 000000 000000 000000 43", // the number 0
		"53 01 00 00 000000 000000 000000 54", // another mark
		"63 01 00 00 000000 000000 000000 64",
		"43 01 00 02 000000 000000 000000 46", // neither fire nor none
		"43 01 00 ff 000000 000000 000000 43",
		"43 01 00 00 000000 000000 000000 00", // another sum
		"43 01 00 00 000000 000000 000000 43",
		"43 01 00 00 000000 000000 000000 01", // the sum without the mark
		"43 01 00 00 000000 000000 000000 88", // the sum with itself
		"00 00 00 00 000000 000000 000000 00",
		"ff ff ff ff ffffff ffffff ffffff ff",
		"00 43 01 00 000000 000000 000000 44",
	} {
		refuseDecode(t, unhex(t, p), api.ErrPacket)
	}
}

func randomCommand(r *rand.Rand) api.Command {
	return api.Command{
		Seq:  1 + r.Intn(api.MaxSeq),
		Fire: r.Intn(2) == 0,
		Move: at(r.Intn(256)-128, r.Intn(256)-128, r.Intn(256)-128),
		Aim:  at(r.Intn(256)-128, r.Intn(256)-128, r.Intn(256)-128),
		Time: r.Intn(api.MaxTime + 1),
	}
}

// bytesOf is the packet of a command, by the table of P8 with remainders in place of bytes.
func bytesOf(c api.Command) string {
	l := []int{'C', c.Seq % 256, c.Seq / 256, 0}
	if c.Fire {
		l[3] = 1
	}
	for _, n := range append(append([]int{}, c.Move.X, c.Move.Y, c.Move.Z), c.Aim.X, c.Aim.Y, c.Aim.Z) {
		l = append(l, (n+256)%256)
	}
	l = append(l, c.Time%256, c.Time/256%256, c.Time/65536)
	b := []byte{}
	for _, n := range l {
		b = append(b, byte(n))
	}
	return sealed(string(b))
}

func TestPacketRandomCommands(t *testing.T) {
	r := rand.New(rand.NewSource(10))
	for i := 0; i < 50000; i++ {
		c := randomCommand(r)
		bothWays(t, c, bytesOf(c))
	}
}

func TestDecodeRandomBytes(t *testing.T) {
	r := rand.New(rand.NewSource(11))
	packets := 0
	for i := 0; i < 100000; i++ {
		b := make([]byte, api.PacketSize)
		r.Read(b)
		if r.Intn(4) > 0 {
			b[0], b[3] = 'C', byte(r.Intn(3))
		}
		if r.Intn(8) == 0 {
			b[1], b[2] = 0, byte(r.Intn(2))
		}
		p := string(b)
		if r.Intn(4) > 0 {
			p = sealed(p[:api.PacketSize-1])
		}
		if p[0] != 'C' || p[1] == 0 && p[2] == 0 || p[3] > 1 || p != sealed(p[:api.PacketSize-1]) {
			refuseDecode(t, p, api.ErrPacket)
			continue
		}
		packets++
		c, e := rewind.Decode(p)
		if e != api.OK || bytesOf(c) != p {
			t.Errorf("P9: Decode(%x) = %v, %d, want a command", p, c, e)
		}
	}
	if packets < 10000 || packets > 90000 {
		t.Errorf("of 100000 texts %d are packets: too few or too many to tell much", packets)
	}
}
