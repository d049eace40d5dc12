package plane

import "testing"

// checkOne asks what has to be of a point with nought, with one, and with what takes it away.
func checkOne(t *testing.T, p Point) {
	t.Helper()
	nought, one, back := Of(0, 0), Of(1, 0), Of(-1, 0)
	alike(t, "with nought added", p, Add(p, nought), Add(nought, p))
	alike(t, "by nought", nought, Mul(p, nought), Mul(nought, p))
	alike(t, "by one", p, Mul(p, one), Mul(one, p))
	alike(t, "taken away", nought, Add(p, Mul(p, back)), Add(Mul(back, p), p))
	alike(t, "taken away by parts", nought, Add(p, Of(-p.Re(), -p.Im())))
}

// checkThree asks what has to be of three points in another order.
func checkThree(t *testing.T, a, b, c Point) {
	t.Helper()
	alike(t, "two added", Add(a, b), Add(b, a))
	alike(t, "two multiplied", Mul(a, b), Mul(b, a))
	alike(t, "three added", Add(Add(a, b), c), Add(a, Add(b, c)), Add(Add(c, a), b), Add(c, Add(b, a)))
	alike(t, "three multiplied", Mul(Mul(a, b), c), Mul(a, Mul(b, c)), Mul(Mul(c, a), b), Mul(c, Mul(b, a)))
	alike(t, "multiplied by a sum", Mul(a, Add(b, c)), Add(Mul(a, b), Mul(a, c)), Add(Mul(a, c), Mul(b, a)))
	alike(t, "a sum multiplied", Mul(Add(a, b), c), Add(Mul(a, c), Mul(b, c)), Add(Mul(c, b), Mul(a, c)))
}

func alike(t *testing.T, what string, want Point, all ...Point) {
	t.Helper()
	for i, p := range all {
		if !exactly(p, want) {
			t.Errorf("%s: %v, not %v (the way %d)", what, complex128(p), complex128(want), i)
		}
	}
}

func TestRingOfEnds(t *testing.T) {
	for _, a := range ends() {
		checkOne(t, a.point())
		for _, b := range ends() {
			for _, c := range ends() {
				checkThree(t, a.point(), b.point(), c.point())
			}
			if t.Failed() {
				return
			}
		}
	}
}

func TestRingOfMadePoints(t *testing.T) {
	m := &maker{state: 83}
	for range 200000 {
		a, b, c := m.pair().point(), m.pair().point(), m.pair().point()
		checkOne(t, a)
		checkThree(t, a, b, c)
		if t.Failed() {
			return
		}
	}
}

// TestLongSums has many points, added and multiplied from either end on.
func TestLongSums(t *testing.T) {
	m := &maker{state: 84}
	forth, back := Of(0, 0), Of(0, 0)
	by, byBack := Of(1, 0), Of(1, 0)
	var list []Point
	for range 1000 {
		p := Of(m.part()|1, m.part()&^1) // of such no product is nought
		list = append(list, p)
		forth, by = Add(forth, p), Mul(by, p)
	}
	for i := range list {
		p := list[len(list)-1-i]
		back, byBack = Add(p, back), Mul(p, byBack)
	}
	alike(t, "many added", forth, back)
	alike(t, "many multiplied", by, byBack)
	if by.Re()%2 == 0 || by.Im()%2 != 0 {
		t.Error("the made product says nothing:", complex128(by))
	}
}
