package fresh_test

import (
	"testing"

	"reverie/api"
	"reverie/flat"
	"reverie/fresh"
	"reverie/made"
	"reverie/show"
	"reverie/words"
)

// samples are programs of all sorts.
func samples(t *testing.T) (list []api.Program) {
	for _, s := range []string{"(def f () 1)", "(def f (x) (fn (x) x))", "(def f (g) (g (let ((g g) (x g)) (case g ((C g x) (g x)) (g g)))))", "(def f (x y) (case (x y) ((C (B x) (C y _)) (fn (x y) (y x))) ((B 3) (x y)) (_ (let ((x y) (y x)) x))))"} {
		list = append(list, named(t, head+s))
	}
	for i := range 100 {
		if s := made.Text(900000+i, made.Rule{Odd: 60, Alts: 4, Deep: 3}); len(s) <= api.MaxSource {
			list = append(list, typed(t, s), flat.Program(typed(t, s)))
		}
		list = append(list, made.Wild(700000+i, append(made.InTexts(), made.InNoText()...)))
	}
	return list
}

// TestNothingIsChanged: what was handed in is as it was, what lies behind its lists' lengths, too, which isn't read.
func TestNothingIsChanged(t *testing.T) {
	t.Parallel()
	for _, p := range samples(t) {
		check(t, p)
		if wrong := words.Kept(p, fresh.Program); wrong != "" {
			t.Fatal(wrong)
		}
	}
}

// TestOrderOfCalls: an answer doesn't hang on the calls ahead of it, nor on such that go on beside it.
func TestOrderOfCalls(t *testing.T) {
	t.Parallel()
	if wrong := words.Hangs(samples(t), fresh.Program); wrong != "" {
		t.Fatal(wrong)
	}
}

// TestOtherParts has parts that layer 2 never answers, or names that don't hold: the calls end, and don't panic.
func TestOtherParts(t *testing.T) {
	t.Parallel()
	for p := range made.Odd {
		q, wrong := words.Again(p, fresh.Program)
		for _, wrong := range []string{wrong, words.Twice(q)} {
			if wrong != "" {
				t.Fatal(wrong, "in", show.Program(q))
			}
		}
	}
	if q := fresh.Program(api.Program{}); len(q.Datas) > 0 || len(q.Defs) > 0 {
		t.Error("of nothing came", q)
	}
}
