package game

import "rewind/api"

// generations is how many generations can be told from one another: a snapshot has one byte for them.
const generations = 256

// seat is a slot. While no client has it, all but its generation is nought.
type seat struct {
	taken      bool
	generation int
	last       int // the greatest number of a command so far
	queue      [api.MaxQueue]api.Command
	waiting    int // how many commands wait, the oldest one first in queue
	player     player
}

// give gives the seat to a client whose home is p.
func (s *seat) give(p api.Point) {
	s.taken = true
	s.enter(p)
}

// enter gives the seat a new player, at its home.
func (s *seat) enter(home api.Point) {
	s.generation = (s.generation + 1) % generations
	s.player = player{home: home, place: home, health: api.Health, ammo: api.Ammo}
}

// free takes the seat from its client.
func (s *seat) free() {
	kept := s.generation
	*s = seat{generation: kept}
}

// put lets a command wait behind the others.
func (s *seat) put(c api.Command) api.Errno {
	if c.Seq <= s.last {
		return api.ErrStale
	}
	if s.waiting >= api.MaxQueue {
		return api.ErrQueue
	}
	s.queue[s.waiting] = c
	s.waiting++
	s.last = c.Seq
	return api.OK
}

// take is the command that has waited longest, if one waits; it waits no more.
func (s *seat) take() (api.Command, bool) {
	if s.waiting == 0 {
		return api.Command{}, false
	}
	oldest := s.queue[0]
	for i := 1; i < api.MaxQueue; i++ {
		s.queue[i-1] = s.queue[i]
	}
	s.waiting--
	return oldest, true
}
