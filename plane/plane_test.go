package plane

import (
	"math"
	"math/big"
	"testing"
)

// The least and the greatest part.
const least, greatest = -1 << 23, 1<<23 - 1

// pair is a point's parts, by the document's words.
type pair struct{ re, im int64 }

// asPart is a whole number as a part, by the document's words, however great it is.
func asPart(n *big.Int) int64 {
	from := big.NewInt(least)
	far := new(big.Int).Sub(n, from)
	far.Mod(far, big.NewInt(1<<24))
	return far.Add(far, from).Int64()
}

// exactly tells whether two points are the same to the bit, so that no -0 is told as 0.
func exactly(a, b Point) bool {
	return math.Float64bits(real(a)) == math.Float64bits(real(b)) && math.Float64bits(imag(a)) == math.Float64bits(imag(b))
}

// checkPoint asks whether a point is that of two parts, and whether each call tells so.
func checkPoint(t *testing.T, what string, p Point, want pair) {
	t.Helper()
	if p.Re() != want.re || p.Im() != want.im {
		t.Errorf("%s: %d %d, not %d %d", what, p.Re(), p.Im(), want.re, want.im)
	}
	if !exactly(p, Point(complex(float64(want.re), float64(want.im)))) {
		t.Errorf("%s: is %v, not %d %d", what, complex128(p), want.re, want.im)
	}
}

// numbers are whole numbers, and what they are as parts.
func numbers() [][2]int64 {
	return [][2]int64{
		{0, 0}, {1, 1}, {-1, -1}, {2, 2}, {-2, -2}, {40, 40}, {-12345, -12345}, {1 << 22, 1 << 22}, {-1 << 22, -1 << 22},
		{least, least}, {greatest, greatest}, {least + 1, least + 1}, {greatest - 1, greatest - 1},
		{least - 1, greatest}, {greatest + 1, least}, {least - 2, greatest - 1}, {greatest + 2, least + 1},
		{1 << 24, 0}, {-1 << 24, 0}, {1<<24 + 1, 1}, {1<<24 - 1, -1}, {-1<<24 - 1, -1}, {1 - 1<<24, 1},
		{3 << 23, least}, {-3 << 23, least}, {3<<23 - 1, greatest}, {-3<<23 - 1, greatest},
		{1 << 31, 0}, {1<<31 - 1, -1}, {-1<<31 - 1, -1}, {1 << 32, 0}, {1<<32 + 7, 7}, {-1<<32 - 7, -7}, {1<<32 + 1<<23, least},
		{1<<53 + 1, 1}, {-1<<53 - 1, -1}, {1<<53 + 1<<23 - 1, greatest}, {1<<62 + 5, 5}, {-1<<62 - 5, -5},
		{math.MaxInt64, -1}, {math.MinInt64, 0}, {math.MaxInt64 - 1, -2}, {math.MinInt64 + 1, 1},
		{math.MaxInt64 + least + 1, least}, {math.MaxInt64 + least, greatest}, {math.MinInt64 + greatest, greatest}, {math.MinInt64 + greatest + 1, least},
	}
}

func TestOf(t *testing.T) {
	for _, a := range numbers() {
		if got := asPart(big.NewInt(a[0])); got != a[1] {
			t.Fatalf("the test says that %d is %d as a part, and also %d", a[0], a[1], got)
		}
		checkPoint(t, "alone, the first one", Of(a[0], 0), pair{a[1], 0})
		checkPoint(t, "alone, the second one", Of(0, a[0]), pair{0, a[1]})
		for _, b := range numbers() {
			checkPoint(t, "both", Of(a[0], b[0]), pair{a[1], b[1]})
		}
	}
}

func TestOfMadeNumbers(t *testing.T) {
	m := &maker{state: 8}
	for range 100000 {
		re, im := int64(m.word())>>m.some(64), int64(m.word())>>m.some(64)
		checkPoint(t, "made", Of(re, im), pair{asPart(big.NewInt(re)), asPart(big.NewInt(im))})
	}
}

// TestNoughtOfTheType has a point that no call made: its parts are nought.
func TestNoughtOfTheType(t *testing.T) {
	var p Point
	checkPoint(t, "no call's", p, pair{0, 0})
	if !exactly(p, Of(0, 0)) || p.Word() != 0 {
		t.Error("a point that no call made isn't 0 0")
	}
}

// maker makes numbers by a short rule.
type maker struct{ state uint64 }

func (m *maker) word() uint64 {
	m.state = m.state*6364136223846793005 + 1442695040888963407
	high := m.state >> 32
	m.state = m.state*6364136223846793005 + 1442695040888963407
	return high<<32 | m.state>>32
}

// some is a number below n.
func (m *maker) some(n int) int { return int(m.word()>>33) % n }

// part is a part, some of them near the ends and near nought.
func (m *maker) part() int64 {
	switch m.some(4) {
	case 0:
		return least + int64(m.some(3))
	case 1:
		return greatest - int64(m.some(3))
	case 2:
		return int64(m.some(7)) - 3
	}
	return least + int64(m.some(1<<24))
}

func (m *maker) pair() pair { return pair{m.part(), m.part()} }

// ends are the points whose parts are near the ends, and near nought.
func ends() []pair {
	var list []pair
	parts := []int64{least, least + 1, -2, -1, 0, 1, 2, greatest - 1, greatest}
	for _, re := range parts {
		for _, im := range parts {
			list = append(list, pair{re, im})
		}
	}
	return list
}

func (p pair) point() Point { return Of(p.re, p.im) }
