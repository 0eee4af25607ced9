// Package packet: commands, written as bytes.
package packet

import (
	"rewind/api"
	"rewind/space"
)

// mark is the first byte of every packet.
const mark = 'C'

// least and greatest are what a byte with a sign can hold, and values is how many that are.
const (
	least    = -128
	greatest = 127
	values   = 256
)

// Encode writes a command as a packet.
func Encode(c api.Command) (string, api.Errno) {
	if !fits(c) {
		return "", api.ErrArg
	}
	return write(c), api.OK
}

// Decode reads a packet.
func Decode(p string) (api.Command, api.Errno) {
	if len(p) > api.PacketSize {
		return api.Command{}, api.ErrLong
	}
	if len(p) < api.PacketSize {
		return api.Command{}, api.ErrPacket
	}
	c := read(p)
	// Each part of a command has its own bytes: if p is the packet of any command, then of this one.
	again, e := Encode(c)
	if e != api.OK || again != p {
		return api.Command{}, api.ErrPacket
	}
	return c, api.OK
}

// fits tells whether there is room for every number of a command in its packet.
func fits(c api.Command) bool {
	if c.Seq < 1 || c.Seq > api.MaxSeq || c.Time < 0 || c.Time > api.MaxTime {
		return false
	}
	room := space.Box{
		Lo: api.Point{X: least, Y: least, Z: least},
		Hi: api.Point{X: greatest, Y: greatest, Z: greatest},
	}
	return room.Holds(c.Move) && room.Holds(c.Aim)
}

// write is the packet of a command that fits.
func write(c api.Command) string {
	fire := byte(0)
	if c.Fire {
		fire = 1
	}
	// To turn a number to a byte adds 256 to a negative one, and leaves away the higher bytes of a great one.
	b := []byte{
		mark,
		byte(c.Seq), byte(c.Seq >> 8),
		fire,
		byte(c.Move.X), byte(c.Move.Y), byte(c.Move.Z),
		byte(c.Aim.X), byte(c.Aim.Y), byte(c.Aim.Z),
		byte(c.Time), byte(c.Time >> 8), byte(c.Time >> 16),
	}
	check := sum(b)
	b = append(b, check)
	return string(b)
}

// sum is the sum of bytes, less 256 as often as that goes.
func sum(b []byte) byte {
	total := byte(0)
	for _, c := range b {
		total += c
	}
	return total
}

// read is the command whose numbers stand in p, whether or not p is its packet.
func read(p string) api.Command {
	if len(p) != api.PacketSize {
		return api.Command{}
	}
	return api.Command{
		Seq:  int(p[1]) + int(p[2])<<8,
		Fire: p[3] == 1,
		Move: api.Point{X: signed(p[4]), Y: signed(p[5]), Z: signed(p[6])},
		Aim:  api.Point{X: signed(p[7]), Y: signed(p[8]), Z: signed(p[9])},
		Time: int(p[10]) + int(p[11])<<8 + int(p[12])<<16,
	}
}

// signed is the number that stands in a byte, with its sign.
func signed(c byte) int {
	n := int(c)
	if n > greatest {
		return n - values
	}
	return n
}
