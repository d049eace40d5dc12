package flat_test

import (
	"math/rand/v2"
	"testing"

	"reverie/api"
	"reverie/flat"
	"reverie/made"
	"reverie/words"
)

// samples are programs of all sorts.
func samples(t *testing.T) (list []api.Program) {
	for _, s := range []string{"1", "(case 1 (2 3))", "(case 1 (_ 3))", "(case (P 1 2) ((P 1 3) 4) ((P x y) (+ x y)))", "(case (P 1 (P 2 3)) ((P 1 (P 1 x)) x) ((P x (P x' y)) (case (P x x') ((P 1 3) 1) (_ y))) (_ 0))", "(let ((f (fn (a b c) (case (P a (P b c)) ((P 1 (P 2 x)) x) (p (fst p)))))) (P (f 1 2 3) (f 4 5 6)))"} {
		list = append(list, parsed(t, made.WithMain("", s)))
	}
	for i := range 150 {
		if s := made.Text(700000+i, made.Rule{Odd: 60, Alts: 4, Deep: 3}); len(s) <= api.MaxSource {
			list = append(list, parsed(t, s))
		}
		if s := (&caser{Rand: rand.New(rand.NewPCG(uint64(i), 2))}).program(); len(s) <= api.MaxSource {
			list = append(list, parsed(t, s))
		}
	}
	return list
}

// TestNothingIsChanged: what was handed in is as it was, what lies behind its lists' lengths, too, which isn't read.
func TestNothingIsChanged(t *testing.T) {
	t.Parallel()
	for _, p := range samples(t) {
		checkFlat(t, p)
		if wrong := words.Kept(p, flat.Program); wrong != "" {
			t.Fatal(wrong)
		}
	}
}

// TestOrderOfCalls: an answer doesn't hang on the calls ahead of it, nor on such that go on beside it.
func TestOrderOfCalls(t *testing.T) {
	t.Parallel()
	if wrong := words.Hangs(samples(t), flat.Program); wrong != "" {
		t.Fatal(wrong)
	}
}

// TestOtherParts has parts that layer 2 never answers, or names and types that aren't right: the calls end, and don't panic.
func TestOtherParts(t *testing.T) {
	t.Parallel()
	for p := range made.Odd {
		if _, wrong := words.Again(p, flat.Program); wrong != "" {
			t.Fatal(wrong)
		}
	}
	if q := flat.Program(api.Program{}); len(q.Datas) > 0 || len(q.Defs) > 0 {
		t.Error("of nothing came", q)
	}
}
