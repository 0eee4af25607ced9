package game

import (
	"rewind/api"
	"rewind/past"
)

// player is what a client walks with.
type player struct {
	home   api.Point
	place  api.Point
	health int
	ammo   int
	ready  int // the tick at which Cooldown ticks have gone by since its last shot; 0 if there was none
	back   int // the tick at which it comes back, if it is dead
	track  past.Track
}

// live tells whether the player is live. Where there is no player, none is.
func (p *player) live() bool {
	return p.health > 0
}

// cooling is how many ticks are still missing until it is ready.
func (p *player) cooling(tick int) int {
	if tick >= p.ready {
		return 0
	}
	return p.ready - tick
}

// hurt takes from its health, and at 0 it is dead.
func (p *player) hurt(damage int, tick int) {
	if damage < p.health {
		p.health -= damage
		return
	}
	p.health = 0
	p.back = tick + api.Respawn
}
