// Package rewind: a server of a small game in which shots are judged by the past: see DOC.md.
package rewind

import (
	"rewind/api"
	"rewind/chart"
	"rewind/game"
	"rewind/packet"
	"rewind/past"
	"rewind/space"
)

// Server is a game on a map, and what it keeps.
type Server struct {
	game game.Game
}

// Check tells whether a text is a map (P3).
func Check(m string) (api.Errno, int) {
	_, e, place := chart.Read(m)
	return e, place
}

// Zone tells the zone of a point (P4).
func Zone(m string, p api.Point) (int, api.Errno) {
	c, e, _ := chart.Read(m)
	if e != api.OK {
		return 0, e
	}
	cube := space.Cube()
	if !cube.Holds(p) {
		return 0, api.ErrArg
	}
	return c.Zone(p), api.OK
}

// Enter tells where a segment enters a box (P5).
func Enter(p api.Point, d api.Point, lo api.Point, hi api.Point) (bool, int, int, api.Errno) {
	if !within(p, d) || !within(lo, hi) {
		return false, 0, 0, api.ErrArg
	}
	b := space.Box{Lo: lo, Hi: hi}
	if !b.Ordered() {
		return false, 0, 0, api.ErrArg
	}
	enters, t := b.Enter(p, d)
	return enters, t.Up, t.Low, api.OK
}

// within tells whether two points have only coordinates that a segment or box may have.
func within(p api.Point, q api.Point) bool {
	limits := space.Limits()
	return limits.Holds(p) && limits.Holds(q)
}

// Trace tells where a segment meets what is solid (P6).
func Trace(m string, p api.Point, d api.Point) (bool, int, int, api.Errno) {
	c, e, _ := chart.Read(m)
	if e != api.OK {
		return false, 0, 0, e
	}
	if !within(p, d) {
		return false, 0, 0, api.ErrArg
	}
	struck, t := c.Trace(p, d)
	return struck, t.Up, t.Low, api.OK
}

// Pose tells where something stood at a time (P7).
func Pose(l []api.Record, t int) (api.Point, api.Errno) {
	if !past.Fits(l, t) {
		return api.Point{}, api.ErrArg
	}
	return past.Pose(l, t), api.OK
}

// Encode writes a command as a packet (P8).
func Encode(c api.Command) (string, api.Errno) {
	return packet.Encode(c)
}

// Decode reads a packet (P9).
func Decode(p string) (api.Command, api.Errno) {
	return packet.Decode(p)
}

// New makes a server (P10).
func New(m string) (*Server, api.Errno) {
	c, e, _ := chart.Read(m)
	if e != api.OK {
		return nil, e
	}
	return &Server{game: game.New(c)}, api.OK
}

// Now tells the tick (P10).
func (s *Server) Now() int {
	if s == nil {
		return 0
	}
	return s.game.Now()
}

// Connect gives a client a slot (P11).
func (s *Server) Connect(p api.Point) (int, api.Errno) {
	if s == nil {
		return 0, api.ErrServer
	}
	return s.game.Connect(p)
}

// Disconnect takes a client's slot from it (P11).
func (s *Server) Disconnect(slot int) api.Errno {
	if s == nil {
		return api.ErrServer
	}
	return s.game.Disconnect(slot)
}

// Packet takes a client's packet (P12).
func (s *Server) Packet(slot int, p string) api.Errno {
	if s == nil {
		return api.ErrServer
	}
	return s.game.Packet(slot, p)
}

// Tick plays one tick (P13).
func (s *Server) Tick() api.Errno {
	if s == nil {
		return api.ErrServer
	}
	return s.game.Tick()
}

// Snapshot tells a client what it may know (P14).
func (s *Server) Snapshot(slot int) (string, api.Errno) {
	if s == nil {
		return "", api.ErrServer
	}
	return s.game.Snapshot(slot)
}
