package rewind_test

import (
	"math/big"
	"math/rand"
	"sort"
	"testing"

	"rewind/api"
	"rewind/rewind"
)

// What the document says of a server, told a second time in other ways, for random games to be compared with.

type modelClient struct {
	place   [3]int
	last    int
	waiting []api.Command

	home    api.Point
	health  int
	ammo    int
	shots   []int // the ticks of its shots
	died    int
	records []api.Record
}

type modelServer struct {
	tree        *tree
	pairs       map[[2]int]bool
	tick        int
	generations map[int]int
	clients     map[int]*modelClient
	kinds       map[string]int // what has come about, and how often
}

// begin: a player of its own is live, at the client's home.
func (c *modelClient) begin() {
	c.place, c.health, c.ammo, c.shots, c.records = coordinates(c.home), api.Health, api.Ammo, nil, nil
}

// missing is how many ticks it cannot shoot yet.
func (c *modelClient) missing(tick int) int {
	if len(c.shots) == 0 {
		return 0
	}
	return max(0, api.Cooldown-(tick-c.shots[len(c.shots)-1]))
}

// modelOf is a server on a tree with some pairs, and its map.
func modelOf(n *tree, pairs [][2]int) (*modelServer, string) {
	m := &modelServer{tree: n, pairs: map[[2]int]bool{}, generations: map[int]int{}, clients: map[int]*modelClient{}, kinds: map[string]int{}}
	text := n.text()
	for _, p := range pairs {
		m.pairs[p] = true
		text += ";" + string(hexDigits[p[0]]) + string(hexDigits[p[1]])
	}
	return m, text
}

func pointOf(c [3]int) api.Point { return at(c[0], c[1], c[2]) }

func (m *modelServer) connect(p api.Point) (int, api.Errno) {
	s := spotOf(p)
	if !s.in(at(0, 0, 0), at(api.Size, api.Size, api.Size)) || m.tree.solid(s) {
		return 0, api.ErrArg
	}
	if len(m.clients) == api.Slots {
		return 0, api.ErrFull
	}
	slot := 0
	for m.clients[slot] != nil {
		slot++
	}
	m.clients[slot] = &modelClient{home: p}
	m.clients[slot].begin()
	m.generations[slot]++
	return slot, api.OK
}

func (m *modelServer) disconnect(slot int) api.Errno {
	if m.clients[slot] == nil {
		return api.ErrSlot
	}
	delete(m.clients, slot)
	return api.OK
}

// packet is told of what stands in it: a command, or the error of reading it.
func (m *modelServer) packet(slot int, c api.Command, read api.Errno) api.Errno {
	client := m.clients[slot]
	switch {
	case client == nil:
		return api.ErrSlot
	case read != api.OK:
		return read
	case c.Seq <= client.last:
		return api.ErrStale
	case len(client.waiting) == api.MaxQueue:
		return api.ErrQueue
	}
	client.last = c.Seq
	client.waiting = append(client.waiting, c)
	return api.OK
}

func (m *modelServer) playTick() api.Errno {
	if m.tick == api.MaxTick {
		return api.ErrEnd
	}
	m.tick++
	for slot, client := range m.clients {
		if client.health == 0 && m.tick == client.died+api.Respawn {
			client.begin()
			m.generations[slot]++
			m.kinds["back"]++
		}
	}
	shots := map[int]api.Command{}
	for slot, client := range m.clients {
		if len(client.waiting) == 0 {
			continue
		}
		if client.health > 0 {
			m.walk(client, coordinates(client.waiting[0].Move))
			if client.waiting[0].Fire {
				shots[slot] = client.waiting[0]
			}
		}
		client.waiting = client.waiting[1:]
	}
	for _, client := range m.clients {
		if client.health > 0 {
			client.records = append(client.records, api.Record{Tick: m.tick, At: pointOf(client.place)})
		}
	}
	for slot := 0; slot < api.Slots; slot++ {
		if c, some := shots[slot]; some {
			m.shoot(slot, c)
		}
	}
	return api.OK
}

func (m *modelServer) shoot(slot int, c api.Command) {
	client := m.clients[slot]
	switch {
	case client.health == 0:
		m.kinds["shooter died"]++
	case client.ammo == 0:
		m.kinds["no ammo"]++
	case client.missing(m.tick) > 0:
		m.kinds["too early"]++
	default:
		client.ammo--
		client.shots = append(client.shots, m.tick)
		m.judge(slot, c)
	}
}

// entry is a point at which a shot enters the head or the body of a player.
type entry struct {
	t            *big.Rat
	slot, damage int
}

// entries are all such points that are not behind a wall, the one that counts first.
func (m *modelServer) entries(slot int, way api.Point, time int) []entry {
	from := pointOf(m.clients[slot].place)
	solid, wallUp, wallLow := m.tree.trace(from, way)
	l := []entry{}
	for other, client := range m.clients {
		if other == slot || client.health == 0 {
			continue
		}
		p := poseModel(client.records, time)
		for damage, b := range map[int][2]api.Point{
			25: {at(p.X-8, p.Y-8, p.Z-16), at(p.X+8, p.Y+8, p.Z+8)},
			60: {at(p.X-4, p.Y-4, p.Z+8), at(p.X+4, p.Y+4, p.Z+16)},
		} {
			enters, up, low := enter(from, way, b[0], b[1])
			if !enters {
				continue
			}
			t := big.NewRat(int64(up), int64(low))
			if solid && t.Cmp(big.NewRat(int64(wallUp), int64(wallLow))) > 0 {
				m.kinds["behind a wall"]++
				continue
			}
			if solid && t.Cmp(big.NewRat(int64(wallUp), int64(wallLow))) == 0 {
				m.kinds["level with a wall"]++
			}
			l = append(l, entry{t, other, damage})
		}
	}
	sort.Slice(l, func(i, j int) bool {
		if c := l[i].t.Cmp(l[j].t); c != 0 {
			return c < 0
		}
		if l[i].slot != l[j].slot {
			return l[i].slot < l[j].slot
		}
		return l[i].damage > l[j].damage
	})
	return l
}

func (m *modelServer) judge(slot int, c api.Command) {
	time := c.Time
	if time < 256*(m.tick-16) {
		time = 256 * (m.tick - 16)
		m.kinds["too old"]++
	} else if time > 256*m.tick {
		time = 256 * m.tick
		m.kinds["too new"]++
	}
	l := m.entries(slot, at(16*c.Aim.X, 16*c.Aim.Y, 16*c.Aim.Z), time)
	if len(l) == 0 {
		m.kinds["miss"]++
		return
	}
	for _, e := range l[1:] {
		switch {
		case e.t.Cmp(l[0].t) == 0 && e.slot == l[0].slot:
			m.kinds["head and body level"]++
		case e.t.Cmp(l[0].t) == 0:
			m.kinds["two level"]++
		case e.slot != l[0].slot:
			m.kinds["one behind another"]++
		}
	}
	victim := m.clients[l[0].slot]
	m.kinds[map[int]string{25: "body", 60: "head"}[l[0].damage]]++
	if victim.records[len(victim.records)-1].At != poseModel(victim.records, time) {
		m.kinds["in the past"]++
	}
	victim.health = max(0, victim.health-l[0].damage)
	if victim.health == 0 {
		victim.died = m.tick
		m.kinds["death"]++
	}
}

func (m *modelServer) walk(client *modelClient, move [3]int) {
	goal, way := [3]int{}, [3]int{}
	for i := range goal {
		goal[i] = min(max(client.place[i]+min(max(move[i], -api.MaxStep), api.MaxStep), 0), api.Size)
		way[i] = goal[i] - client.place[i]
	}
	if solid, _, _ := m.tree.trace(pointOf(client.place), pointOf(way)); !solid {
		client.place = goal
	}
}

func (m *modelServer) sees(a, b *modelClient) bool {
	sum := 0
	for i := range a.place {
		sum += (a.place[i] - b.place[i]) * (a.place[i] - b.place[i])
	}
	from, to := m.tree.zone(spotOf(pointOf(a.place))), m.tree.zone(spotOf(pointOf(b.place)))
	return sum <= api.Reach*api.Reach && (from == to || m.pairs[[2]int{from, to}] || m.pairs[[2]int{to, from}])
}

func (m *modelServer) snapshot(slot int) (string, api.Errno) {
	own := m.clients[slot]
	if own == nil {
		return "", api.ErrSlot
	}
	l := []int{'S', m.tick % 256, m.tick / 256, slot, min(1, own.health), own.health, own.ammo, own.missing(m.tick), 0}
	for i := 0; i < api.Slots; i++ {
		if other := m.clients[i]; other != nil && (other == own || other.health > 0 && m.sees(own, other)) {
			l[8]++
			l = append(l, i, m.generations[i]%256, other.health)
			for _, c := range other.place {
				l = append(l, c%256, c/256)
			}
		}
	}
	b := []byte{}
	for _, n := range l {
		b = append(b, byte(n))
	}
	return string(b), api.OK
}

// compare: the server tells what the model tells.
func (m *modelServer) compare(t *testing.T, s *rewind.Server, text string) {
	t.Helper()
	if s.Now() != m.tick {
		t.Fatalf("P10: on %s it is the tick %d, want %d", text, s.Now(), m.tick)
	}
	for slot := -1; slot <= api.Slots; slot++ {
		want, wantError := m.snapshot(slot)
		if b, e := s.Snapshot(slot); b != want || e != wantError {
			t.Fatalf("P14: on %s Snapshot(%d) = %x, %d, want %x, %d", text, slot, b, e, want, wantError)
		}
	}
}

// randomPacket is a packet for a client with this last number, and what stands in it.
func randomPacket(r *rand.Rand, last int) (string, api.Command, api.Errno) {
	c := randomCommand(r)
	c.Seq = max(1, min(last+r.Intn(8)-1, api.MaxSeq))
	p := bytesOf(c)
	switch r.Intn(12) {
	case 0:
		return p + "\x00", api.Command{}, api.ErrLong
	case 1:
		return p[:r.Intn(api.PacketSize)], api.Command{}, api.ErrPacket
	}
	return p, c, api.OK
}

// randomPairs is some pairs of zones.
func randomPairs(r *rand.Rand) [][2]int {
	l := [][2]int{}
	for i := r.Intn(5); i > 0; i-- {
		l = append(l, [2]int{r.Intn(8), r.Intn(8)})
	}
	return l
}

// closeBy is a place in the cube or beside it, not far from p.
func closeBy(r *rand.Rand, p api.Point) api.Point {
	return at(p.X+r.Intn(200)-100, p.Y+r.Intn(200)-100, p.Z+r.Intn(200)-100)
}

func TestServerRandomGames(t *testing.T) {
	r := rand.New(rand.NewSource(12))
	kinds := map[string]int{}
	for i := 0; i < 200; i++ {
		n := randomMapTree(r, 0)
		m, text := modelOf(n, randomPairs(r))
		s := start(t, text)
		middle := randomPlace(r, n)
		for j := 0; j < 150; j++ {
			randomCall(t, r, m, s, middle, kinds)
			m.compare(t, s, text)
		}
		for _, client := range m.clients {
			for _, other := range m.clients {
				if client != other && m.sees(client, other) {
					kinds["sees"]++
				}
			}
		}
	}
	cameOften(t, kinds, 100, "connect 0", "connect 5", "connect 6", "disconnect 0", "disconnect 7", "packet 0", "packet 2", "packet 7", "packet 8", "packet 9", "packet 10", "went", "stayed", "sees")
}

// cameOften: a random test tells little of what hardly comes about in it.
func cameOften(t *testing.T, kinds map[string]int, least int, wanted ...string) {
	t.Helper()
	for _, kind := range wanted {
		if kinds[kind] < least {
			t.Errorf("%q came only %d times: too few to tell much", kind, kinds[kind])
		}
	}
}

// randomCall makes one call on both, and compares the answers.
func randomCall(t *testing.T, r *rand.Rand, m *modelServer, s *rewind.Server, middle api.Point, kinds map[string]int) {
	t.Helper()
	slot := r.Intn(3)
	if r.Intn(4) == 0 {
		slot = r.Intn(api.Slots+2) - 1
	}
	switch kind := r.Intn(20); {
	case kind < 4:
		p := closeBy(r, middle)
		n, e := s.Connect(p)
		want, wantError := m.connect(p)
		kinds["connect "+string(hexDigits[wantError])]++
		if n != want || e != wantError {
			t.Fatalf("P11: Connect(%v) = %d, %d, want %d, %d", p, n, e, want, wantError)
		}
	case kind < 5:
		want := m.disconnect(slot)
		kinds["disconnect "+string(hexDigits[want])]++
		disconnect(t, s, slot, want)
	case kind < 17:
		last := 0
		if m.clients[slot] != nil {
			last = m.clients[slot].last
		}
		p, c, read := randomPacket(r, last)
		want := m.packet(slot, c, read)
		kinds["packet "+[]string{"0", "1", "2", "3", "4", "5", "6", "7", "8", "9", "10"}[want]]++
		send(t, s, slot, p, want)
	default:
		countMoves(m, kinds, func() {
			want := m.playTick()
			if e := s.Tick(); e != want {
				t.Fatalf("P13: Tick = %d, want %d", e, want)
			}
		})
	}
}

// countMoves counts how many clients with a command go or stay.
func countMoves(m *modelServer, kinds map[string]int, tick func()) {
	before := map[*modelClient][3]int{}
	for _, client := range m.clients {
		if len(client.waiting) > 0 {
			before[client] = client.place
		}
	}
	tick()
	for client, place := range before {
		if client.place == place {
			kinds["stayed"]++
		} else {
			kinds["went"]++
		}
	}
}

// A random shooting goes on in a room of so wide, in which planes stand closely.
const (
	roomFrom = 14 * api.Grid
	roomTo   = 22 * api.Grid
)

// shooting is how random numbers of a game are: any, or on a grid, so that much is level with much else.
type shooting struct {
	r    *rand.Rand
	grid int
}

// around is a number of the grid from n - most to n + most.
func (g shooting) around(n, most int) int {
	return (n + g.r.Intn(2*most+1) - most) / g.grid * g.grid
}

func (g shooting) pointAround(p api.Point, sides, up int) api.Point {
	return at(g.around(p.X, sides), g.around(p.Y, sides), g.around(p.Z, up))
}

// aimAt is an aim from one place to another, now and then along fewer axes, and of any length.
func (g shooting) aimAt(from, to api.Point) api.Point {
	way, longest := [3]int{}, 1
	for i := range way {
		if g.r.Intn(5) > 0 {
			way[i] = (coordinates(to)[i] - coordinates(from)[i]) / min(4, g.grid)
		}
		longest = max(longest, way[i], -way[i])
	}
	if g.grid == 1 || longest > 127 {
		length := 1 + g.r.Intn(127)
		for i := range way {
			way[i] = way[i] * length / longest
		}
	}
	return pointOf(way)
}

// command is one of a client that shoots at where another one stood, more or less.
func (g shooting) command(m *modelServer, client *modelClient) api.Command {
	c := api.Command{Seq: client.last + 1, Fire: g.r.Intn(8) > 0, Time: 256 * max(0, m.tick-g.r.Intn(22))}
	if g.grid == 1 {
		c.Time += g.r.Intn(256)
	}
	if g.r.Intn(10) == 0 {
		c.Time = g.r.Intn(api.MaxTime + 1)
	}
	if g.r.Intn(2) == 0 {
		c.Move = g.pointAround(at(0, 0, 0), 20, 10)
	}
	other := m.clients[g.r.Intn(5)]
	if other == nil || len(other.records) == 0 || g.r.Intn(10) == 0 {
		c.Aim = at(g.r.Intn(3)-1, g.r.Intn(3)-1, g.r.Intn(3)-1)
		return c
	}
	to := g.pointAround(poseModel(other.records, c.Time), 5, 15)
	c.Aim = g.aimAt(pointOf(client.place), to)
	return c
}

func TestServerRandomShots(t *testing.T) {
	r := rand.New(rand.NewSource(13))
	kinds := map[string]int{}
	for i := 0; i < 400; i++ {
		lo, hi := roomFrom/api.Grid, roomTo/api.Grid
		n := randomTree(r, r.Intn(6), [3]int{lo, lo, lo}, [3]int{hi, hi, hi}, 0)
		m, text := modelOf(n, randomPairs(r))
		m.kinds = kinds
		s := start(t, text)
		g := shooting{r, []int{1, 4, 8}[i%3]}
		for j := 0; j < 50; j++ {
			randomRound(t, g, m, s)
			m.compare(t, s, text)
		}
	}
	cameOften(t, kinds, 100, "back", "shooter died", "no ammo", "too early", "too old", "too new", "miss", "head", "body", "in the past", "death", "behind a wall", "one behind another")
	cameOften(t, kinds, 25, "level with a wall", "head and body level", "two level")
}

// randomRound: some come and go, most send a command, and a tick is played.
func randomRound(t *testing.T, g shooting, m *modelServer, s *rewind.Server) {
	t.Helper()
	if g.r.Intn(8) == 0 {
		slot := g.r.Intn(5)
		disconnect(t, s, slot, m.disconnect(slot))
	}
	middle := (roomFrom + roomTo) / 2
	for tries := 0; tries < 6 && len(m.clients) < 5; tries++ {
		p := g.pointAround(at(middle, middle, middle), middle-roomFrom, 48/g.grid)
		n, e := s.Connect(p)
		if want, wantError := m.connect(p); n != want || e != wantError {
			t.Fatalf("P11: Connect(%v) = %d, %d, want %d, %d", p, n, e, want, wantError)
		}
	}
	for slot := 0; slot < api.Slots; slot++ {
		if client := m.clients[slot]; client != nil && g.r.Intn(4) > 0 {
			c := g.command(m, client)
			send(t, s, slot, bytesOf(c), m.packet(slot, c, api.OK))
		}
	}
	want := m.playTick()
	if e := s.Tick(); e != want {
		t.Fatalf("P13: Tick = %d, want %d", e, want)
	}
}
