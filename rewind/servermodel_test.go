package rewind_test

import (
	"math/rand"
	"testing"

	"rewind/api"
	"rewind/rewind"
)

// What the document says of a server, told a second time in other ways, for random games to be compared with.

type modelClient struct {
	place   [3]int
	last    int
	waiting []api.Command
}

type modelServer struct {
	tree        *tree
	pairs       map[[2]int]bool
	tick        int
	generations map[int]int
	clients     map[int]*modelClient
}

// modelOf is a server on a tree with some pairs, and its map.
func modelOf(n *tree, pairs [][2]int) (*modelServer, string) {
	m := &modelServer{tree: n, pairs: map[[2]int]bool{}, generations: map[int]int{}, clients: map[int]*modelClient{}}
	text := n.text()
	for _, p := range pairs {
		m.pairs[p] = true
		text += ";" + string(hexDigits[p[0]]) + string(hexDigits[p[1]])
	}
	return m, text
}

func pointOf(c [3]int) api.Point { return at(c[0], c[1], c[2]) }

func (m *modelServer) connect(p api.Point) (int, api.Errno) {
	s := spotOf(p)
	if !s.in(at(0, 0, 0), at(api.Size, api.Size, api.Size)) || m.tree.solid(s) {
		return 0, api.ErrArg
	}
	if len(m.clients) == api.Slots {
		return 0, api.ErrFull
	}
	slot := 0
	for m.clients[slot] != nil {
		slot++
	}
	m.clients[slot] = &modelClient{place: coordinates(p)}
	m.generations[slot]++
	return slot, api.OK
}

func (m *modelServer) disconnect(slot int) api.Errno {
	if m.clients[slot] == nil {
		return api.ErrSlot
	}
	delete(m.clients, slot)
	return api.OK
}

// packet is told of what stands in it: a command, or the error of reading it.
func (m *modelServer) packet(slot int, c api.Command, read api.Errno) api.Errno {
	client := m.clients[slot]
	switch {
	case client == nil:
		return api.ErrSlot
	case read != api.OK:
		return read
	case c.Seq <= client.last:
		return api.ErrStale
	case len(client.waiting) == api.MaxQueue:
		return api.ErrQueue
	}
	client.last = c.Seq
	client.waiting = append(client.waiting, c)
	return api.OK
}

func (m *modelServer) playTick() api.Errno {
	if m.tick == api.MaxTick {
		return api.ErrEnd
	}
	m.tick++
	for _, client := range m.clients {
		if len(client.waiting) > 0 {
			m.walk(client, coordinates(client.waiting[0].Move))
			client.waiting = client.waiting[1:]
		}
	}
	return api.OK
}

func (m *modelServer) walk(client *modelClient, move [3]int) {
	goal, way := [3]int{}, [3]int{}
	for i := range goal {
		goal[i] = min(max(client.place[i]+min(max(move[i], -api.MaxStep), api.MaxStep), 0), api.Size)
		way[i] = goal[i] - client.place[i]
	}
	if solid, _, _ := m.tree.trace(pointOf(client.place), pointOf(way)); !solid {
		client.place = goal
	}
}

func (m *modelServer) sees(a, b *modelClient) bool {
	sum := 0
	for i := range a.place {
		sum += (a.place[i] - b.place[i]) * (a.place[i] - b.place[i])
	}
	from, to := m.tree.zone(spotOf(pointOf(a.place))), m.tree.zone(spotOf(pointOf(b.place)))
	return sum <= api.Reach*api.Reach && (from == to || m.pairs[[2]int{from, to}] || m.pairs[[2]int{to, from}])
}

func (m *modelServer) snapshot(slot int) (string, api.Errno) {
	own := m.clients[slot]
	if own == nil {
		return "", api.ErrSlot
	}
	l := []int{'S', m.tick % 256, m.tick / 256, slot, 1, api.Health, api.Ammo, 0, 0}
	for i := 0; i < api.Slots; i++ {
		if other := m.clients[i]; other != nil && m.sees(own, other) {
			l[8]++
			l = append(l, i, m.generations[i]%256, api.Health)
			for _, c := range other.place {
				l = append(l, c%256, c/256)
			}
		}
	}
	b := []byte{}
	for _, n := range l {
		b = append(b, byte(n))
	}
	return string(b), api.OK
}

// compare: the server tells what the model tells.
func (m *modelServer) compare(t *testing.T, s *rewind.Server, text string) {
	t.Helper()
	if s.Now() != m.tick {
		t.Fatalf("P10: on %s it is the tick %d, want %d", text, s.Now(), m.tick)
	}
	for slot := -1; slot <= api.Slots; slot++ {
		want, wantError := m.snapshot(slot)
		if b, e := s.Snapshot(slot); b != want || e != wantError {
			t.Fatalf("P14: on %s Snapshot(%d) = %x, %d, want %x, %d", text, slot, b, e, want, wantError)
		}
	}
}

// randomPacket is a packet for a client with this last number, and what stands in it.
func randomPacket(r *rand.Rand, last int) (string, api.Command, api.Errno) {
	c := randomCommand(r)
	c.Fire = false
	c.Seq = max(1, min(last+r.Intn(8)-1, api.MaxSeq))
	p := bytesOf(c)
	switch r.Intn(12) {
	case 0:
		return p + "\x00", api.Command{}, api.ErrLong
	case 1:
		return p[:r.Intn(api.PacketSize)], api.Command{}, api.ErrPacket
	}
	return p, c, api.OK
}

// randomPairs is some pairs of zones.
func randomPairs(r *rand.Rand) [][2]int {
	l := [][2]int{}
	for i := r.Intn(5); i > 0; i-- {
		l = append(l, [2]int{r.Intn(8), r.Intn(8)})
	}
	return l
}

// closeBy is a place in the cube or beside it, not far from p.
func closeBy(r *rand.Rand, p api.Point) api.Point {
	return at(p.X+r.Intn(200)-100, p.Y+r.Intn(200)-100, p.Z+r.Intn(200)-100)
}

func TestServerRandomGames(t *testing.T) {
	r := rand.New(rand.NewSource(12))
	kinds := map[string]int{}
	for i := 0; i < 200; i++ {
		n := randomMapTree(r, 0)
		m, text := modelOf(n, randomPairs(r))
		s := start(t, text)
		middle := randomPlace(r, n)
		for j := 0; j < 150; j++ {
			randomCall(t, r, m, s, middle, kinds)
			m.compare(t, s, text)
		}
		for _, client := range m.clients {
			for _, other := range m.clients {
				if client != other && m.sees(client, other) {
					kinds["sees"]++
				}
			}
		}
	}
	for _, kind := range []string{"connect 0", "connect 5", "connect 6", "disconnect 0", "disconnect 7", "packet 0", "packet 2", "packet 7", "packet 8", "packet 9", "packet 10", "went", "stayed", "sees"} {
		if kinds[kind] < 100 {
			t.Errorf("%q came only %d times: too few to tell much", kind, kinds[kind])
		}
	}
}

// randomCall makes one call on both, and compares the answers.
func randomCall(t *testing.T, r *rand.Rand, m *modelServer, s *rewind.Server, middle api.Point, kinds map[string]int) {
	t.Helper()
	slot := r.Intn(3)
	if r.Intn(4) == 0 {
		slot = r.Intn(api.Slots+2) - 1
	}
	switch kind := r.Intn(20); {
	case kind < 4:
		p := closeBy(r, middle)
		n, e := s.Connect(p)
		want, wantError := m.connect(p)
		kinds["connect "+string(hexDigits[wantError])]++
		if n != want || e != wantError {
			t.Fatalf("P11: Connect(%v) = %d, %d, want %d, %d", p, n, e, want, wantError)
		}
	case kind < 5:
		want := m.disconnect(slot)
		kinds["disconnect "+string(hexDigits[want])]++
		disconnect(t, s, slot, want)
	case kind < 17:
		last := 0
		if m.clients[slot] != nil {
			last = m.clients[slot].last
		}
		p, c, read := randomPacket(r, last)
		want := m.packet(slot, c, read)
		kinds["packet "+[]string{"0", "1", "2", "3", "4", "5", "6", "7", "8", "9", "10"}[want]]++
		send(t, s, slot, p, want)
	default:
		countMoves(m, kinds, func() {
			want := m.playTick()
			if e := s.Tick(); e != want {
				t.Fatalf("P13: Tick = %d, want %d", e, want)
			}
		})
	}
}

// countMoves counts how many clients with a command go or stay.
func countMoves(m *modelServer, kinds map[string]int, tick func()) {
	before := map[*modelClient][3]int{}
	for _, client := range m.clients {
		if len(client.waiting) > 0 {
			before[client] = client.place
		}
	}
	tick()
	for client, place := range before {
		if client.place == place {
			kinds["stayed"]++
		} else {
			kinds["went"]++
		}
	}
}
