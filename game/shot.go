package game

import (
	"rewind/api"
	"rewind/space"
)

// How far a player reaches from its place: its body to each side, down and up, and its head, which stands on the body, to each side and up.
const (
	bodySide = 8
	bodyDown = 16
	bodyUp   = 8
	headSide = 4
	headUp   = 16
)

// shot is a segment, and the time at which it looks for the others.
type shot struct {
	from api.Point
	way  api.Point
	time int
}

// hit is where a shot enters a player, if it does, and what that does to the player's health.
type hit struct {
	some   bool
	t      space.Fraction
	damage int
}

// ahead tells whether h comes ahead of another hit.
func (h hit) ahead(other hit) bool {
	return h.some && (!other.some || other.t.Above(h.t))
}

// shoot lets the player of a slot shoot as its command says, if it can.
func (g *Game) shoot(slot int, c api.Command) {
	p := &g.seats[slot].player
	cooling := p.cooling(g.tick)
	if !p.live() || p.ammo == 0 || cooling > 0 {
		return
	}
	p.ammo--
	p.ready = g.tick + api.Cooldown
	way := wayOf(c.Aim)
	time := g.timeOf(c)
	s := shot{from: p.place, way: way, time: time}
	victim, h := g.first(slot, s)
	if h.some && g.reaches(s, h.t) {
		g.seats[victim].player.hurt(h.damage, g.tick)
	}
}

// wayOf is how far a shot goes.
func wayOf(aim api.Point) api.Point {
	return api.Point{X: api.Range * aim.X, Y: api.Range * aim.Y, Z: api.Range * aim.Z}
}

// timeOf is the time that a command claims, or the nearest one to which a shot can go back now.
func (g *Game) timeOf(c api.Command) int {
	oldest := api.Sub * (g.tick - api.Window)
	newest := api.Sub * g.tick
	if c.Time < oldest {
		return oldest
	}
	if c.Time > newest {
		return newest
	}
	return c.Time
}

// first is the slot of the player that a shot of another slot enters first, whatever is solid, and where it does.
func (g *Game) first(shooter int, s shot) (int, hit) {
	victim := 0
	least := hit{}
	for i := range g.seats {
		other := &g.seats[i].player
		if i == shooter || !other.live() {
			continue
		}
		stood := other.track.Pose(s.time)
		h := s.enter(stood)
		// Of several at once the lowest slot is met first here, and stays.
		if h.ahead(least) {
			victim = i
			least = h
		}
	}
	return victim, least
}

// reaches tells whether nothing solid is ahead of the point t of a shot.
func (g *Game) reaches(s shot, t space.Fraction) bool {
	struck, wall := g.ground.Trace(s.from, s.way)
	return !struck || !t.Above(wall)
}

// enter is the hit of the shot at a player that stood at p.
func (s shot) enter(p api.Point) hit {
	head := s.enterBox(headOf(p), api.HeadDamage)
	body := s.enterBox(bodyOf(p), api.BodyDamage)
	// Level with the body, the head is struck.
	if body.ahead(head) {
		return body
	}
	return head
}

// enterBox is the hit of the shot at a box.
func (s shot) enterBox(b space.Box, damage int) hit {
	enters, t := b.Enter(s.from, s.way)
	if !enters {
		return hit{}
	}
	return hit{some: true, t: t, damage: damage}
}

// bodyOf is the body of a player at p.
func bodyOf(p api.Point) space.Box {
	return space.Box{
		Lo: api.Point{X: p.X - bodySide, Y: p.Y - bodySide, Z: p.Z - bodyDown},
		Hi: api.Point{X: p.X + bodySide, Y: p.Y + bodySide, Z: p.Z + bodyUp},
	}
}

// headOf is the head of a player at p.
func headOf(p api.Point) space.Box {
	return space.Box{
		Lo: api.Point{X: p.X - headSide, Y: p.Y - headSide, Z: p.Z + bodyUp},
		Hi: api.Point{X: p.X + headSide, Y: p.Y + headSide, Z: p.Z + headUp},
	}
}
