package plane

import (
	"math/big"
	"testing"
)

// plainSum is the sum of two points, by the document's words.
func plainSum(a, b pair) pair {
	return pair{asPart(plus(num(a.re), num(b.re))), asPart(plus(num(a.im), num(b.im)))}
}

// plainProduct is the product of two points, by the document's words.
func plainProduct(a, b pair) pair {
	re := new(big.Int).Sub(times(a.re, b.re), times(a.im, b.im))
	return pair{asPart(re), asPart(plus(times(a.re, b.im), times(a.im, b.re)))}
}

func num(n int64) *big.Int        { return big.NewInt(n) }
func plus(a, b *big.Int) *big.Int { return new(big.Int).Add(a, b) }
func times(a, b int64) *big.Int   { return new(big.Int).Mul(num(a), num(b)) }

// three are two points, and what is made of them.
type three struct{ a, b, want pair }

func checkSum(t *testing.T, c three) {
	t.Helper()
	checkPoint(t, "a sum", Add(c.a.point(), c.b.point()), c.want)
}

func checkProduct(t *testing.T, c three) {
	t.Helper()
	checkPoint(t, "a product", Mul(c.a.point(), c.b.point()), c.want)
}

// checkTold checks what the test tells by hand, once the document's words tell the same.
func checkTold(t *testing.T, plain func(a, b pair) pair, check func(*testing.T, three), list []three) {
	t.Helper()
	for _, c := range list {
		if got := plain(c.a, c.b); got != c.want {
			t.Fatalf("the test tells of %v and %v %v, and also %v", c.a, c.b, c.want, got)
		}
		check(t, c)
	}
}

func TestAdd(t *testing.T) {
	checkTold(t, plainSum, checkSum, []three{
		{pair{0, 0}, pair{0, 0}, pair{0, 0}},
		{pair{1, 2}, pair{3, 4}, pair{4, 6}},
		{pair{1, -2}, pair{-3, 4}, pair{-2, 2}},
		{pair{5, -7}, pair{-5, 7}, pair{0, 0}},
		{pair{least, greatest}, pair{0, 0}, pair{least, greatest}},
		{pair{least, greatest}, pair{1, -1}, pair{least + 1, greatest - 1}},
		{pair{least, least}, pair{greatest, greatest}, pair{-1, -1}},
		{pair{1 << 22, -1 << 22}, pair{1<<22 - 1, -1 << 22}, pair{greatest, least}},
		{pair{greatest, 0}, pair{1, 0}, pair{least, 0}},
		{pair{0, greatest}, pair{0, 1}, pair{0, least}},
		{pair{least, 0}, pair{-1, 0}, pair{greatest, 0}},
		{pair{0, least}, pair{0, -1}, pair{0, greatest}},
		{pair{greatest, least}, pair{1, -1}, pair{least, greatest}},
		{pair{least, greatest}, pair{-5, 5}, pair{greatest - 4, least + 4}},
		{pair{least, least}, pair{least, least}, pair{0, 0}},
		{pair{greatest, greatest}, pair{greatest, greatest}, pair{-2, -2}},
		{pair{least, greatest}, pair{least, greatest}, pair{0, -2}},
		{pair{1 << 22, -1 << 22}, pair{1 << 22, -1<<22 - 1}, pair{least, greatest}},
	})
}

func TestMul(t *testing.T) {
	checkTold(t, plainProduct, checkProduct, []three{
		{pair{1, 2}, pair{3, 4}, pair{-5, 10}},
		{pair{0, 0}, pair{-3, -4}, pair{0, 0}},
		{pair{-3, 0}, pair{0, 0}, pair{0, 0}},
		{pair{1, 0}, pair{least, greatest}, pair{least, greatest}},
		{pair{0, 1}, pair{0, 1}, pair{-1, 0}},
		{pair{0, 1}, pair{3, 4}, pair{-4, 3}},
		{pair{0, -1}, pair{3, 4}, pair{4, -3}},
		{pair{-1, -2}, pair{3, -4}, pair{-11, -2}},
		{pair{2, 3}, pair{2, -3}, pair{13, 0}},
		{pair{2047, 0}, pair{4097, 0}, pair{2047 * 4097, 0}},
		{pair{4096, 0}, pair{2048, 0}, pair{least, 0}},
		{pair{0, 4096}, pair{2048, 0}, pair{0, least}},
		{pair{0, 4096}, pair{0, 2048}, pair{least, 0}},
		{pair{4096, 1}, pair{4096, 1}, pair{-1, 8192}},
		{pair{5000, 7000}, pair{3000, -2000}, pair{29000000 - 1<<25, 11000000 - 1<<24}},
		{pair{-1, 0}, pair{least, greatest}, pair{least, -greatest}},
		{pair{0, 1}, pair{greatest, least}, pair{least, greatest}},
	})
}

// TestMulOfEnds has the greatest products that there are, ahead of being taken as parts.
func TestMulOfEnds(t *testing.T) {
	const l, g = least, greatest
	checkTold(t, plainProduct, checkProduct, []three{
		{pair{l, 0}, pair{l, 0}, pair{0, 0}},
		{pair{g, 0}, pair{g, 0}, pair{1, 0}},
		{pair{l, 0}, pair{g, 0}, pair{l, 0}},
		{pair{0, l}, pair{0, l}, pair{0, 0}},
		{pair{0, g}, pair{0, g}, pair{-1, 0}},
		{pair{0, l}, pair{0, g}, pair{l, 0}},
		{pair{l, 0}, pair{0, g}, pair{0, l}},
		{pair{g, 0}, pair{0, g}, pair{0, 1}},
		{pair{l, l}, pair{l, l}, pair{0, 0}},
		{pair{g, g}, pair{g, g}, pair{0, 2}},
		{pair{l, l}, pair{g, g}, pair{0, 0}},
		{pair{l, g}, pair{l, g}, pair{-1, 0}},
		{pair{g, l}, pair{g, l}, pair{1, 0}},
		{pair{l, g}, pair{g, l}, pair{0, 1}},
		{pair{l, l}, pair{l, g}, pair{l, l}},
		{pair{l, l}, pair{g, l}, pair{l, l}},
		{pair{g, g}, pair{l, g}, pair{greatest, -greatest}},
		{pair{g, g}, pair{g, l}, pair{-greatest, -greatest}},
	})
}

// TestMadePairs holds sums and products against the document's words, of points at the ends and of made ones.
func TestMadePairs(t *testing.T) {
	for _, a := range ends() {
		for _, b := range ends() {
			checkSum(t, three{a, b, plainSum(a, b)})
			checkProduct(t, three{a, b, plainProduct(a, b)})
		}
	}
	m := &maker{state: 81}
	stays := 0
	for range 100000 {
		a, b := m.pair(), m.pair()
		sum := plainSum(a, b)
		if sum == (pair{a.re + b.re, a.im + b.im}) {
			stays++
		}
		checkSum(t, three{a, b, sum})
		checkProduct(t, three{a, b, plainProduct(a, b)})
	}
	if stays < 10000 || stays > 90000 {
		t.Errorf("of the made sums %d stay parts: too few of one kind", stays)
	}
}
