package rewind_test

import (
	"math"
	"math/rand"
	"strings"
	"testing"

	"rewind/api"
	"rewind/rewind"
)

type traceCase struct {
	m       string
	p, d    api.Point
	in      bool
	up, low int
	e       api.Errno
}

func runTraces(t *testing.T, cases []traceCase) {
	t.Helper()
	for _, c := range cases {
		if in, up, low, e := rewind.Trace(c.m, c.p, c.d); in != c.in || up != c.up || low != c.low || e != c.e {
			t.Errorf("P6: Trace(%.60q, %v, %v) = %v, %d, %d, %d, want %v, %d, %d, %d", c.m, c.p, c.d, in, up, low, e, c.in, c.up, c.low, c.e)
		}
	}
}

func TestTraceExamples(t *testing.T) {
	runTraces(t, []traceCase{
		{"x80#0", at(3000, 5, 5), at(-1904, 0, 0), true, 1, 2, api.OK},
		{"x80#0", at(3000, 5, 5), at(-951, 0, 0), false, 0, 0, api.OK},
	})
}

func TestTraceEdges(t *testing.T) {
	const m = api.MaxCoord
	runTraces(t, []traceCase{
		// A point alone, on a border of what is solid and beside it.
		{"x80#0", at(2048, 0, 0), at(0, 0, 0), true, 0, 1, api.OK}, {"x80#0", at(2049, 0, 0), at(0, 0, 0), false, 0, 0, api.OK},
		// Along a border of what is solid, and one beside it.
		{"x80#0", at(2048, -10, 7), at(0, 100, 0), true, 1, 10, api.OK}, {"x80#0", at(2049, -10, 7), at(0, 100, 0), false, 0, 0, api.OK},
		// Of several solid leaves the nearest counts, wherever it stands in the text.
		{"x40#x800#", at(1536, 0, 0), at(1024, 0, 0), true, 1, 2, api.OK}, {"x40#x800#", at(1536, 0, 0), at(-1024, 0, 0), true, 1, 2, api.OK},
		{"x40#x800#", at(-1024, 0, 0), at(8192, 0, 0), true, 1, 8, api.OK}, {"x40#x800#", at(5120, 0, 0), at(-8192, 0, 0), true, 1, 8, api.OK},
		// A point outside the cube is not solid, not even level with a solid leaf.
		{"#", at(4097, 0, 0), at(1, 0, 0), false, 0, 0, api.OK}, {"#", at(-1, 0, 0), at(0, 5000, 0), false, 0, 0, api.OK}, {"x800#", at(4097, -9, 5), at(0, 5000, 0), false, 0, 0, api.OK},
		// The cube's corner, and its border.
		{"#", at(4100, 4092, 4096), at(-8, 8, 0), true, 1, 2, api.OK}, {"#", at(4101, 4092, 4096), at(-8, 8, 0), false, 0, 0, api.OK}, {"#", at(0, 0, -1), at(0, 0, 1), true, 1, 1, api.OK},
		// The greatest numbers.
		{"#", at(-m, 0, 0), at(m, 0, 0), true, 1, 1, api.OK}, {"#", at(m, m, m), at(-m, -m, -m), true, 255, 256, api.OK}, {"0", at(m, m, m), at(-m, -m, -m), false, 0, 0, api.OK}, {"#", at(m, m, m), at(m, m, m), false, 0, 0, api.OK}, {"#", at(-m, 0, 0), at(m-1, 0, 0), false, 0, 0, api.OK},
		// Pairs do not matter.
		{"x80#0;00;12", at(3000, 5, 5), at(-1904, 0, 0), true, 1, 2, api.OK},
	})
}

func TestTraceErrors(t *testing.T) {
	for axis := 0; axis < 3; axis++ {
		for _, c := range []int{-api.MaxCoord - 1, api.MaxCoord + 1, math.MinInt, math.MaxInt, math.MinInt32, math.MaxInt32} {
			l := [3]int{}
			l[axis] = c
			wrong := at(l[0], l[1], l[2])
			for _, m := range []string{"#", "0"} {
				runTraces(t, []traceCase{{m: m, p: wrong, e: api.ErrArg}, {m: m, d: wrong, e: api.ErrArg}})
			}
			runTraces(t, []traceCase{{m: "#;", p: wrong, e: api.ErrMap}, {m: "x00##", d: wrong, e: api.ErrPlane}, {m: strings.Repeat("#", 513), p: wrong, e: api.ErrLong}})
		}
	}
	runTraces(t, []traceCase{{m: "", e: api.ErrMap}, {m: "z00##", e: api.ErrPlane}, {m: strings.Repeat("#", 513), e: api.ErrLong}})
}

func TestTraceRandom(t *testing.T) {
	r := rand.New(rand.NewSource(7))
	for i := 0; i < 4000; i++ {
		n := randomMapTree(r, 0)
		p, q := randomPlace(r, n), randomPlace(r, n)
		c := traceCase{m: n.text(), p: p, d: at(q.X-p.X, q.Y-p.Y, q.Z-p.Z)}
		switch r.Intn(6) {
		case 0:
			c.d = at(r.Intn(255)-127, r.Intn(255)-127, r.Intn(255)-127)
		case 1:
			// Through the cube and beyond.
			c.p = at(p.X-2*c.d.X, p.Y-2*c.d.Y, p.Z-2*c.d.Z)
			c.d = at(5*c.d.X, 5*c.d.Y, 5*c.d.Z)
		case 2:
			c.d.X = 0
		}
		c.in, c.up, c.low = n.trace(c.p, c.d)
		runTraces(t, []traceCase{c})
	}
}
