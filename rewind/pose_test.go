package rewind_test

import (
	"math"
	"math/big"
	"math/rand"
	"testing"

	"rewind/api"
	"rewind/rewind"
)

func record(tick, x, y, z int) api.Record { return api.Record{Tick: tick, At: at(x, y, z)} }

type poseCase struct {
	l []api.Record
	t int
	p api.Point
}

func runPoses(t *testing.T, cases []poseCase) {
	t.Helper()
	for _, c := range cases {
		if p, e := rewind.Pose(c.l, c.t); p != c.p || e != api.OK {
			t.Errorf("P7: Pose(%v, %d) = %v, %d, want %v, 0", c.l, c.t, p, e, c.p)
		}
	}
}

func refusePose(t *testing.T, l []api.Record, time int) {
	t.Helper()
	if p, e := rewind.Pose(l, time); p != at(0, 0, 0) || e != api.ErrArg {
		t.Errorf("P7: Pose(%v, %d) = %v, %d, want noughts, %d", l, time, p, e, api.ErrArg)
	}
}

// walk is a list of so many records, at ticks that follow one another.
func walk(records int) []api.Record {
	l := []api.Record{}
	for i := 0; i < records; i++ {
		l = append(l, record(10+i, 256*(i%17), 4096-256*(i%17), i%2))
	}
	return l
}

func TestPoseExamples(t *testing.T) {
	two := []api.Record{record(2, 100, 7, 0), record(4, 93, 7, 3)}
	runPoses(t, []poseCase{
		{two, 768, at(96, 7, 1)},
		{two, 0, at(100, 7, 0)}, {two, 511, at(100, 7, 0)}, {two, 512, at(100, 7, 0)}, {two, 513, at(99, 7, 0)},
		{two, 1023, at(93, 7, 2)}, {two, 1024, at(93, 7, 3)}, {two, 1025, at(93, 7, 3)}, {two, api.MaxTime, at(93, 7, 3)},
	})
}

func TestPoseOneRecord(t *testing.T) {
	for _, tick := range []int{0, 1, 7, api.MaxTick} {
		for _, time := range []int{0, 1, 255, 256, 257, 7*256 - 1, 7 * 256, 7*256 + 1, api.MaxTick*256 - 1, api.MaxTick * 256, api.MaxTime} {
			runPoses(t, []poseCase{{[]api.Record{record(tick, 1, 2, 3)}, time, at(1, 2, 3)}})
		}
	}
}

func TestPoseBetweenNeighbours(t *testing.T) {
	l := walk(api.MaxRecords)
	for i, r := range l {
		runPoses(t, []poseCase{{l, 256 * r.Tick, r.At}})
		if i == 0 {
			continue
		}
		// A step of 256 in a tick of 256 subticks: one a subtick, and of a step of one nothing until the end.
		for gone := 1; gone < 256; gone++ {
			runPoses(t, []poseCase{{l, 256*(r.Tick-1) + gone, at(l[i-1].At.X+gone, l[i-1].At.Y-gone, 0)}})
		}
	}
}

func TestPoseEachAxisRoundsDown(t *testing.T) {
	for axis := 0; axis < 3; axis++ {
		for gone := 0; gone < 256; gone++ {
			c, want := [3]int{}, [3]int{}
			c[axis], want[axis] = 3, 3*gone/256
			up := []api.Record{record(0, 0, 0, 0), record(1, c[0], c[1], c[2])}
			runPoses(t, []poseCase{{up, gone, at(want[0], want[1], want[2])}})
			// Down, a step counts as soon as it has begun.
			want[axis] = 3 * (256 - gone) / 256
			down := []api.Record{record(0, c[0], c[1], c[2]), record(1, 0, 0, 0)}
			runPoses(t, []poseCase{{down, gone, at(want[0], want[1], want[2])}})
		}
	}
}

func TestPoseGreatestNumbers(t *testing.T) {
	const n, end = api.Size, api.Sub * api.MaxTick
	l := []api.Record{record(0, 0, n, n), record(api.MaxTick, n, 0, n)}
	runPoses(t, []poseCase{
		{l, 0, at(0, n, n)}, {l, 1, at(0, n-1, n)}, {l, 187, at(0, n-1, n)}, {l, 188, at(1, n-2, n)}, {l, 187500, at(1000, n-1000, n)},
		{l, end / 2, at(n/2, n/2, n)}, {l, end/2 + 1, at(n/2, n/2-1, n)}, {l, end - 188, at(n-2, 1, n)}, {l, end - 187, at(n-1, 0, n)},
		{l, end - 1, at(n-1, 0, n)}, {l, end, at(n, 0, n)}, {l, end + 1, at(n, 0, n)}, {l, api.MaxTime, at(n, 0, n)},
	})
}

func TestPoseWrongLengths(t *testing.T) {
	refusePose(t, nil, 0)
	refusePose(t, []api.Record{}, 0)
	refusePose(t, walk(1)[:0], 0)
	for n := 1; n <= api.MaxRecords; n++ {
		runPoses(t, []poseCase{{walk(n), 0, walk(n)[0].At}, {walk(n), api.MaxTime, walk(n)[n-1].At}})
	}
	for _, n := range []int{api.MaxRecords + 1, api.MaxRecords + 2, 100, api.MaxTick - 9, 2 * api.MaxTick} {
		refusePose(t, walk(n), 0)
		refusePose(t, walk(n), 10*256+1)
	}
	refusePose(t, make([]api.Record, 1<<22), 0)
}

func TestPoseWrongTimes(t *testing.T) {
	for _, n := range []int{1, 2, api.MaxRecords} {
		for _, time := range []int{-1, -256, api.MaxTime + 1, math.MinInt, math.MaxInt, math.MinInt32, math.MaxInt32} {
			refusePose(t, walk(n), time)
		}
	}
}

// Of each list every record in turn gets something wrong, and every time is asked for, also such as would not need that record.
func TestPoseWrongRecords(t *testing.T) {
	times := []int{0, 10 * 256, 10*256 + 1, 12*256 + 128, 26 * 256, api.MaxTime}
	for _, n := range []int{1, 2, 3, api.MaxRecords} {
		for i := 0; i < n; i++ {
			for _, time := range times {
				for _, tick := range []int{-1, api.MaxTick + 1, math.MinInt, math.MaxInt} {
					l := walk(n)
					l[i].Tick = tick
					refusePose(t, l, time)
				}
				refuseWrongPlaces(t, n, i, time)
				if i > 0 {
					refuseWrongOrder(t, n, i, time)
				}
			}
		}
	}
}

func refuseWrongPlaces(t *testing.T, n, i, time int) {
	t.Helper()
	for axis := 0; axis < 3; axis++ {
		for _, c := range []int{-1, api.Size + 1, math.MinInt, math.MaxInt} {
			p := coordinates(at(1, 2, 3))
			p[axis] = c
			l := walk(n)
			l[i].At = at(p[0], p[1], p[2])
			refusePose(t, l, time)
		}
		for _, c := range []int{0, api.Size} {
			p := coordinates(at(1, 2, 3))
			p[axis] = c
			l := walk(n)
			l[i].At = at(p[0], p[1], p[2])
			runPoses(t, []poseCase{{l, 256 * l[i].Tick, l[i].At}})
		}
	}
}

func refuseWrongOrder(t *testing.T, n, i, time int) {
	t.Helper()
	for _, back := range []int{0, 1, 9} {
		l := walk(n)
		l[i].Tick = l[i-1].Tick - back
		refusePose(t, l, time)
	}
}

func TestPoseFirstAndLastTick(t *testing.T) {
	l := []api.Record{record(0, 1, 1, 1), record(1, 2, 2, 2), record(api.MaxTick-1, 3, 3, 3), record(api.MaxTick, 4, 4, 4)}
	runPoses(t, []poseCase{
		{l, 0, at(1, 1, 1)}, {l, 255, at(1, 1, 1)}, {l, 256, at(2, 2, 2)}, {l, 256*(api.MaxTick-1) - 1, at(2, 2, 2)},
		{l, 256 * (api.MaxTick - 1), at(3, 3, 3)}, {l, 256*api.MaxTick - 1, at(3, 3, 3)}, {l, 256 * api.MaxTick, at(4, 4, 4)},
	})
}

// poseModel: it looks for the neighbours from the end, and takes the formula word for word.
func poseModel(l []api.Record, t int) api.Point {
	last := len(l) - 1
	if t <= 256*l[0].Tick {
		return l[0].At
	}
	if t >= 256*l[last].Tick {
		return l[last].At
	}
	i := last
	for 256*l[i].Tick > t {
		i--
	}
	u, v := 256*l[i].Tick, 256*l[i+1].Tick
	c := [3]int{}
	for axis := range c {
		a, b := coordinates(l[i].At)[axis], coordinates(l[i+1].At)[axis]
		exact := new(big.Rat).Mul(big.NewRat(int64(b-a), 1), big.NewRat(int64(t-u), int64(v-u)))
		exact.Add(exact, big.NewRat(int64(a), 1))
		// Div rounds down where the divisor is above 0.
		c[axis] = int(new(big.Int).Div(exact.Num(), exact.Denom()).Int64())
	}
	return at(c[0], c[1], c[2])
}

func randomRecords(r *rand.Rand) []api.Record {
	n := 1 + r.Intn(api.MaxRecords)
	steps := []int{1, 3, api.MaxTick / api.MaxRecords}[r.Intn(3)]
	bound := []int{3, 50, api.Size}[r.Intn(3)]
	tick := r.Intn(40)
	l := []api.Record{}
	for i := 0; i < n && tick <= api.MaxTick; i++ {
		l = append(l, record(tick, r.Intn(bound+1), r.Intn(bound+1), r.Intn(bound+1)))
		tick += 1 + r.Intn(steps)
	}
	return l
}

func randomTime(r *rand.Rand, l []api.Record) int {
	first, last := 256*l[0].Tick, 256*l[len(l)-1].Tick
	time := first + r.Intn(last-first+1)
	if r.Intn(4) == 0 {
		time = 256*l[r.Intn(len(l))].Tick + r.Intn(3) - 1
	}
	if r.Intn(20) == 0 {
		time = r.Intn(api.MaxTime + 1)
	}
	return max(time, 0)
}

func TestPoseRandomRecords(t *testing.T) {
	r := rand.New(rand.NewSource(7))
	for i := 0; i < 40000; i++ {
		l := randomRecords(r)
		time := randomTime(r, l)
		runPoses(t, []poseCase{{l, time, poseModel(l, time)}})
	}
}

func TestPoseLeavesItsListAlone(t *testing.T) {
	r := rand.New(rand.NewSource(9))
	for i := 0; i < 2000; i++ {
		whole := make([]api.Record, 30)
		for j := range whole {
			whole[j] = record(r.Intn(api.MaxTick+2), r.Intn(5000), r.Intn(5000), r.Intn(5000))
		}
		begin, end := 5, 5
		if r.Intn(10) > 0 {
			end += copy(whole[begin:], randomRecords(r))
		}
		if r.Intn(4) == 0 {
			end = begin + r.Intn(len(whole)-begin)
		}
		before := append([]api.Record{}, whole...)
		time := r.Intn(api.MaxTick*256) - 100
		rewind.Pose(whole[begin:end], time)
		for j := range whole {
			if whole[j] != before[j] {
				t.Fatalf("P2: Pose(%v, %d) changed the record %d of its list's room to %v", before[begin:end], time, j-begin, whole[j])
			}
		}
	}
}

func TestPoseKeepsNoList(t *testing.T) {
	l := walk(3)
	first, _ := rewind.Pose(l, 11*256)
	l[1].At = at(9, 9, 9)
	runPoses(t, []poseCase{{l, 11 * 256, at(9, 9, 9)}, {walk(3), 11 * 256, first}})
}
