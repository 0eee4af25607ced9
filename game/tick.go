package game

import (
	"rewind/api"
	"rewind/space"
)

// Tick plays one tick.
func (g *Game) Tick() api.Errno {
	if g.tick >= api.MaxTick {
		return api.ErrEnd
	}
	g.tick++
	for i := range g.seats {
		g.bringBack(&g.seats[i])
	}
	obeyed := [api.Slots]api.Command{}
	for i := range g.seats {
		obeyed[i] = g.obey(&g.seats[i])
	}
	for i := range g.seats {
		g.record(&g.seats[i].player)
	}
	for i := range obeyed {
		if obeyed[i].Fire {
			g.shoot(i, obeyed[i])
		}
	}
	return api.OK
}

// bringBack gives a client whose player has been dead long enough a new one.
func (g *Game) bringBack(s *seat) {
	home := s.player.home
	if s.taken && !s.player.live() && g.tick >= s.player.back {
		s.enter(home)
	}
}

// obey takes the command of a client that has waited longest, and is that command; all noughts, if none waited.
// If the player is dead, the command is lost, and the answer is all noughts too.
func (g *Game) obey(s *seat) api.Command {
	c, some := s.take()
	if !some || !s.player.live() {
		return api.Command{}
	}
	g.move(&s.player, c.Move)
	return c
}

// move lets a player walk, if nothing solid is in its way.
func (g *Game) move(p *player, way api.Point) {
	goal := goalOf(p.place, way)
	d := minus(goal, p.place)
	struck, _ := g.ground.Trace(p.place, d)
	if !struck {
		p.place = goal
	}
}

// goalOf is where a player at a place comes to, if it wants to go this way and nothing hinders it.
func goalOf(place api.Point, way api.Point) api.Point {
	steps := space.Box{
		Lo: api.Point{X: -api.MaxStep, Y: -api.MaxStep, Z: -api.MaxStep},
		Hi: api.Point{X: api.MaxStep, Y: api.MaxStep, Z: api.MaxStep},
	}
	cube := space.Cube()
	step := steps.Nearest(way)
	return cube.Nearest(plus(place, step))
}

// plus is the point that lies by d from p.
func plus(p api.Point, d api.Point) api.Point {
	return api.Point{X: p.X + d.X, Y: p.Y + d.Y, Z: p.Z + d.Z}
}

// minus is the way from q to p.
func minus(p api.Point, q api.Point) api.Point {
	return api.Point{X: p.X - q.X, Y: p.Y - q.Y, Z: p.Z - q.Z}
}

// record keeps where a live player stands now.
func (g *Game) record(p *player) {
	if p.live() {
		p.track.Add(api.Record{Tick: g.tick, At: p.place})
	}
}
