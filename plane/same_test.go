package plane

import (
	"math"
	"slices"
	"sync"
	"testing"

	"reverie/api"
)

// answers are what all calls answer, at two numbers and at the points of two words.
type answers struct {
	of, add, mul, from Point
	re, im             int64
	word               uint64
	e                  api.Errno
}

func answersAt(a, b uint64) answers {
	var x answers
	x.of = Of(int64(a), int64(b))
	other := Of(int64(b)>>20, int64(a)>>20)
	x.add, x.mul = Add(x.of, other), Mul(x.of, other)
	x.re, x.im, x.word = x.of.Re(), x.of.Im(), x.of.Word()
	x.from, x.e = FromWord(a ^ b>>1)
	return x
}

// given are pairs of numbers, among them the least and the greatest.
func given() [][2]uint64 {
	var list [][2]uint64
	var some []uint64
	for _, n := range numbers() {
		some = append(some, uint64(n[0]), inWords(n[1], n[0]))
	}
	for _, a := range some {
		for _, b := range some {
			list = append(list, [2]uint64{a, b})
		}
	}
	return list
}

func allAnswers(list [][2]uint64) []answers {
	var got []answers
	for _, g := range list {
		got = append(got, answersAt(g[0], g[1]))
	}
	return got
}

// TestTheSameAgain asks all calls again, at once, in the other order, and side by side.
func TestTheSameAgain(t *testing.T) {
	list := given()
	first := allAnswers(list)
	for i, g := range list {
		if again := answersAt(g[0], g[1]); again != first[i] || answersAt(g[0], g[1]) != again {
			t.Fatalf("%#x %#x: %v, then %v", g[0], g[1], first[i], again)
		}
	}
	turned := slices.Clone(list)
	slices.Reverse(turned)
	back := allAnswers(turned)
	slices.Reverse(back)
	if !slices.Equal(back, first) {
		t.Error("other answers in the other order")
	}
	var group sync.WaitGroup
	for range 4 {
		group.Go(func() {
			if !slices.Equal(allAnswers(list), first) {
				t.Error("other answers side by side")
			}
		})
	}
	group.Wait()
}

// TestOfAnyNumber has Points of complex numbers that are no points: of their parts nothing is promised, but each call ends, with what is a point.
func TestOfAnyNumber(t *testing.T) {
	floats := []float64{0, math.Copysign(0, -1), 0.5, -1.5, least - 1, greatest + 1, 1 << 53, -1 << 63, 1 << 63, 1e300, -math.MaxFloat64, math.SmallestNonzeroFloat64, math.Inf(1), math.Inf(-1), math.NaN()}
	for _, re := range floats {
		for _, im := range floats {
			p := Point(complex(re, im))
			for _, got := range []Point{Of(p.Re(), p.Im()), Add(p, Of(1, 2)), Add(Of(3, 4), p), Mul(p, p), Mul(p, Of(-1, 5))} {
				checkPoint(t, "of any number", got, pair{got.Re(), got.Im()})
			}
			if back, e := FromWord(p.Word()); e != api.OK || back.Re() != p.Re() || back.Im() != p.Im() {
				t.Errorf("%v: %d %d, its word's point %v %d", complex128(p), p.Re(), p.Im(), complex128(back), e)
			}
		}
	}
}
