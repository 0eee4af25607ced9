package rewind_test

import (
	"math/rand"
	"strings"
	"testing"

	"rewind/api"
	"rewind/rewind"
)

type checkCase struct {
	m     string
	e     api.Errno
	place int
}

func runChecks(t *testing.T, cases []checkCase) {
	t.Helper()
	for _, c := range cases {
		if e, place := rewind.Check(c.m); e != c.e || place != c.place {
			t.Errorf("P3: Check(%.60q) = %d, %d, want %d, %d", c.m, e, place, c.e, c.place)
		}
	}
}

func TestCheckExamples(t *testing.T) {
	runChecks(t, []checkCase{
		{"x8001;01", api.OK, 0}, {"#", api.OK, 0}, {"", api.ErrMap, 0},
		{"x80#", api.ErrMap, 4}, {"x80#0#", api.ErrMap, 5}, {"x8g", api.ErrMap, 2}, {"0;08", api.ErrMap, 3},
		{"x0000", api.ErrPlane, 0}, {"x80x8000#", api.ErrPlane, 1}, {"x40y800x40123", api.ErrPlane, 2}, {"x40y800x20123", api.OK, 0},
	})
}

// balanced is a tree of planes on x, each halving its region, and so many of them above each leaf.
func balanced(depth, from, to int) *tree {
	if depth == 0 {
		return &tree{letter: '0'}
	}
	middle := (from + to) / 2
	return &tree{letter: 'x', number: middle, lower: balanced(depth-1, from, middle), upper: balanced(depth-1, middle, to)}
}

func TestCheckLength(t *testing.T) {
	greatest := balanced(7, 0, 256).text() + ";01"
	if len(greatest) != api.MaxMap {
		t.Fatalf("the greatest map has %d bytes", len(greatest))
	}
	runChecks(t, []checkCase{
		{greatest, api.OK, 0},
		{greatest + ";", api.ErrLong, 0},
		{"00" + strings.Repeat(";01", 170), api.ErrMap, 1},
		{"00" + strings.Repeat(";01", 171), api.ErrLong, 0},
		{"x0000" + strings.Repeat(";01", 169), api.ErrPlane, 0},
		{"x0000" + strings.Repeat(";01", 170), api.ErrLong, 0},
		{"0" + strings.Repeat(";01", 170), api.OK, 0},
		{"0" + strings.Repeat(";01", 170) + ";", api.ErrMap, 512},
		{"0" + strings.Repeat(";01", 170) + ";0", api.ErrLong, 0},
		{strings.Repeat("x80", 1000000), api.ErrLong, 0},
	})
}

// chain has planes one within the other, all in the lower or all in the upper trees.
func chain(planes int, lower bool) string {
	head, tail := "", ""
	for i := 1; i <= planes; i++ {
		if lower {
			head += "y" + string(hexDigits[15-i]) + "0"
			tail += "#"
		} else {
			head += "z" + string(hexDigits[i]) + "0" + "#"
		}
	}
	return head + "5" + tail
}

func TestCheckDepth(t *testing.T) {
	runChecks(t, []checkCase{
		{chain(api.MaxDepth, true), api.OK, 0},
		{chain(api.MaxDepth, false), api.OK, 0},
		{chain(api.MaxDepth+1, true), api.ErrMap, 3 * api.MaxDepth},
		{chain(api.MaxDepth+1, false), api.ErrMap, 4 * api.MaxDepth},
		{chain(api.MaxDepth, true)[:3*api.MaxDepth], api.ErrMap, 3 * api.MaxDepth},
		{chain(api.MaxDepth, true)[:3*api.MaxDepth] + "x", api.ErrMap, 3 * api.MaxDepth},
		// Behind the deepest leaf, a plane has one fewer above it.
		{chain(api.MaxDepth, true)[:3*api.MaxDepth] + "0y", api.ErrMap, 3*api.MaxDepth + 1},
		{chain(api.MaxDepth, true)[:3*api.MaxDepth] + "00y", api.ErrMap, 3*api.MaxDepth + 3},
	})
}

func TestCheckFormGoesAheadOfPlanes(t *testing.T) {
	runChecks(t, []checkCase{
		{"x000", api.ErrMap, 4}, {"x0000;0", api.ErrMap, 7}, {"x0000;08", api.ErrMap, 7}, {"x00000", api.ErrMap, 5}, {"x0000;01", api.ErrPlane, 0},
	})
}

func TestCheckPlanes(t *testing.T) {
	runChecks(t, []checkCase{
		{"x0101", api.OK, 0}, {"xff01", api.OK, 0}, {"y0001", api.ErrPlane, 0}, {"z0001", api.ErrPlane, 0},
		{"x80x7f01#", api.OK, 0}, {"x80x8001#", api.ErrPlane, 1}, {"x80x8101#", api.ErrPlane, 1},
		{"x80#x8101", api.OK, 0}, {"x80#x8001", api.ErrPlane, 1}, {"x80#x7f01", api.ErrPlane, 1},
		{"y80y7f01#", api.OK, 0}, {"y80y8001#", api.ErrPlane, 1}, {"y80#y8101", api.OK, 0}, {"y80#y8001", api.ErrPlane, 1},
		{"z80z7f01#", api.OK, 0}, {"z80z8001#", api.ErrPlane, 1}, {"z80#z8101", api.OK, 0}, {"z80#z8001", api.ErrPlane, 1},
		{"y80z8001#", api.OK, 0}, {"z80#y8001", api.OK, 0},
		{"y80x10y9001#2", api.ErrPlane, 2}, {"z80x10#z90012", api.ErrPlane, 2}, {"z80x1001z9001", api.OK, 0},
		// Two planes are wrong: the first counts; and a wrong one below a wrong one.
		{"x80x8001x8001", api.ErrPlane, 1}, {"x00x0001#", api.ErrPlane, 0},
		// The lower tree's planes come ahead of the upper tree's.
		{"x80x4001x4001", api.ErrPlane, 2}, {"x80y400y500#x4001", api.ErrPlane, 3},
	})
}

// everyByte tries each byte behind a text, where only those of allowed can stand.
func everyByte(t *testing.T, ahead, allowed string) {
	t.Helper()
	for b := 0; b < 256; b++ {
		m := ahead + string([]byte{byte(b)}) + "!"
		want := len(ahead)
		if strings.IndexByte(allowed, byte(b)) >= 0 {
			want++
		}
		if e, place := rewind.Check(m); e != api.ErrMap || place != want {
			t.Errorf("P3: Check(%q) = %d, %d, want %d, %d", m, e, place, api.ErrMap, want)
		}
	}
}

func TestCheckEveryByte(t *testing.T) {
	const zones, leafOrPlane = "01234567", "#01234567xyz"
	everyByte(t, "", leafOrPlane)
	everyByte(t, "x", hexDigits)
	everyByte(t, "y8", hexDigits)
	everyByte(t, "z80", leafOrPlane)
	everyByte(t, "z800", leafOrPlane)
	everyByte(t, "z80z8000", leafOrPlane)
	everyByte(t, chain(api.MaxDepth, true)[:3*api.MaxDepth], "#01234567")
	everyByte(t, "0", ";")
	everyByte(t, "x8001", ";")
	everyByte(t, "x8001;", zones)
	everyByte(t, "x8001;0", zones)
	everyByte(t, "x8001;07", ";")
}

func TestCheckRandomPlanes(t *testing.T) {
	r := rand.New(rand.NewSource(3))
	for i := 0; i < 4000; i++ {
		n := randomMapTree(r, 12)
		want := checkCase{m: n.text(), e: api.OK}
		if _, wrong := n.firstWrongPlane(0, nil); wrong >= 0 {
			want.e, want.place = api.ErrPlane, wrong
		}
		runChecks(t, []checkCase{want})
	}
}

// canGoOn tells whether a text can be the head of a map: noughts can stand for all that is missing behind it.
func canGoOn(head string) bool {
	for missing := 0; missing <= 3+api.MaxMap; missing++ {
		if hasForm(head + strings.Repeat("0", missing)) {
			return true
		}
		if missing > 3 && strings.Contains(head, ";") {
			return false
		}
	}
	return false
}

func spoil(r *rand.Rand, m string) string {
	const bytes = "#01278;xyz09afg "
	k := r.Intn(len(m))
	b := string(bytes[r.Intn(len(bytes))])
	switch r.Intn(4) {
	case 0:
		return m[:k]
	case 1:
		return m[:k] + m[k+1:]
	case 2:
		return m[:k] + b + m[k:]
	}
	return m[:k] + b + m[k+1:]
}

func TestCheckRandomForms(t *testing.T) {
	r := rand.New(rand.NewSource(4))
	for i := 0; i < 300; i++ {
		m := spoil(r, randomTree(r, r.Intn(4), [3]int{}, [3]int{256, 256, 256}, 12).text()+strings.Repeat(";47", r.Intn(3)))
		e, place := rewind.Check(m)
		if hasForm(m) {
			if e == api.ErrMap {
				t.Errorf("P3: Check(%q) = %d, %d, but it has the form of a map", m, e, place)
			}
			continue
		}
		if e != api.ErrMap || place < 0 || place > len(m) {
			t.Errorf("P3: Check(%q) = %d, %d, but it has not the form of a map", m, e, place)
			continue
		}
		if !canGoOn(m[:place]) {
			t.Errorf("P3: Check(%q) = %d, %d, but a byte ahead of that cannot stand there", m, e, place)
		}
		if place < len(m) && canGoOn(m[:place+1]) {
			t.Errorf("P3: Check(%q) = %d, %d, but that byte can stand there", m, e, place)
		}
	}
}
