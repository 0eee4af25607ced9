package game

import "rewind/api"

// mark is the first byte of every snapshot.
const mark = 'S'

// Snapshot is what the client of a slot may know now.
func (g *Game) Snapshot(slot int) (string, api.Errno) {
	if !g.taken(slot) {
		return "", api.ErrSlot
	}
	own := &g.seats[slot].player
	told := ""
	count := 0
	for i := range g.seats {
		if i == slot || g.shows(own, &g.seats[i].player) {
			told += row(i, &g.seats[i])
			count++
		}
	}
	return g.head(slot, own, count) + told, api.OK
}

// shows tells whether the client of the player own is told of another player.
func (g *Game) shows(own *player, other *player) bool {
	if !other.live() || !near(own.place, other.place) {
		return false
	}
	here := g.ground.Zone(own.place)
	there := g.ground.Zone(other.place)
	return g.ground.Sees(here, there)
}

// near tells whether two places of the cube are at most Reach from each other.
func near(p api.Point, q api.Point) bool {
	d := minus(p, q)
	return d.X*d.X+d.Y*d.Y+d.Z*d.Z <= api.Reach*api.Reach
}

// head is the part of a snapshot that tells of the client itself, and of how many players the rest tells.
func (g *Game) head(slot int, own *player, count int) string {
	live := byte(0)
	if own.live() {
		live = 1
	}
	cooling := own.cooling(g.tick)
	b := []byte{
		mark,
		byte(g.tick), byte(g.tick >> 8),
		byte(slot),
		live, byte(own.health), byte(own.ammo), byte(cooling),
		byte(count),
	}
	return string(b)
}

// row is the part of a snapshot that tells of the player of a slot.
func row(slot int, s *seat) string {
	at := s.player.place
	b := []byte{
		byte(slot), byte(s.generation), byte(s.player.health),
		byte(at.X), byte(at.X >> 8),
		byte(at.Y), byte(at.Y >> 8),
		byte(at.Z), byte(at.Z >> 8),
	}
	return string(b)
}
