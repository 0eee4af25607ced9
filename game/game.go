// Package game: clients and their players on a map, tick by tick.
package game

import (
	"rewind/api"
	"rewind/chart"
	"rewind/packet"
	"rewind/space"
)

// Game is a game at one of its ticks.
type Game struct {
	ground chart.Map
	tick   int
	seats  [api.Slots]seat
}

// New is a game without clients.
func New(ground chart.Map) Game {
	return Game{ground: ground}
}

// Now is the tick.
func (g *Game) Now() int {
	return g.tick
}

// Connect gives a client the lowest free slot, and a player at p.
func (g *Game) Connect(p api.Point) (int, api.Errno) {
	if !g.canStand(p) {
		return 0, api.ErrArg
	}
	for i := range g.seats {
		if !g.seats[i].taken {
			g.seats[i].give(p)
			return i, api.OK
		}
	}
	return 0, api.ErrFull
}

// canStand tells whether a player may stand at p.
func (g *Game) canStand(p api.Point) bool {
	cube := space.Cube()
	if !cube.Holds(p) {
		return false
	}
	zone := g.ground.Zone(p)
	return zone >= 0
}

// taken tells whether a client has the slot, of all numbers.
func (g *Game) taken(slot int) bool {
	return slot >= 0 && slot < api.Slots && g.seats[slot].taken
}

// Disconnect takes a client's slot from it.
func (g *Game) Disconnect(slot int) api.Errno {
	if !g.taken(slot) {
		return api.ErrSlot
	}
	g.seats[slot].free()
	return api.OK
}

// Packet lets the command of a packet wait.
func (g *Game) Packet(slot int, p string) api.Errno {
	if !g.taken(slot) {
		return api.ErrSlot
	}
	c, e := packet.Decode(p)
	if e != api.OK {
		return e
	}
	return g.seats[slot].put(c)
}
