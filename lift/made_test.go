package lift_test

import (
	"strings"
	"testing"

	"reverie/api"
	"reverie/flat"
	"reverie/fresh"
	"reverie/lift"
	"reverie/made"
	"reverie/words"
)

// TestWild has programs of all kinds of parts, in each other, with few names for very many things.
func TestWild(t *testing.T) {
	t.Parallel()
	most := 0
	for i := range 160 {
		p := made.Wild(1300000+i, made.InTexts())
		checkAll(t, p)
		check(t, made.Wild(i, append(made.InTexts()[:4], made.InNoText()...)))
		most = max(most, functions(p))
	}
	if most < 50 {
		t.Error("no program had more functions than", most)
	}
}

// TestMadeMeant has programs that have types, with parts of all sorts.
func TestMadeMeant(t *testing.T) {
	t.Parallel()
	kinds := map[string]int{}
	for i := range 200 {
		s := made.Text(1400000+i, made.Rule{Odd: []int{20, 60, 200}[i%3], Alts: 1 + i%6, Deep: 1 + i%4})
		if len(s) > api.MaxSource {
			continue
		}
		p := typed(t, s)
		checkAll(t, p)
		outcome := checkMeant(t, p, 5000)
		if outcome != "" && !strings.HasPrefix(outcome, "error") {
			outcome = "a tree"
		}
		if functions(p) > 0 {
			kinds[outcome]++
		}
	}
	for _, outcome := range []string{"a tree", noDiv, noMatch, loop} {
		if kinds[outcome] < 10 {
			t.Error("too few programs of a kind were held:", kinds)
		}
	}
}

// samples are programs of all sorts.
func samples(t *testing.T) (list []api.Program) {
	for _, s := range []string{"1", "(x 1)", "(fn (y) y)", "(fn (y) (g x (fn (z) (x y z)) (fn (y) g)))", "(let ((a (fn (y) (a x))) (b x)) (case (fn (z) (a b)) ((C c d) (fn (e) (d c e x))) (_ (+ (fn (y) y) (B (fn (y) b))))))"} {
		list = append(list, named(t, head+"(def f (x) "+s+")"))
	}
	for i := range 80 {
		if s := made.Text(1500000+i, made.Rule{Odd: 60, Alts: 4, Deep: 3}); len(s) <= api.MaxSource {
			list = append(list, fresh.Program(typed(t, s)), fresh.Program(flat.Program(typed(t, s))))
		}
		p := made.Wild(1500000+i, append(made.InTexts(), made.InNoText()...))
		list = append(list, p, fresh.Program(p))
	}
	return list
}

// TestNothingIsChanged: what was handed in is as it was, what lies behind its lists' lengths, too, which isn't read.
func TestNothingIsChanged(t *testing.T) {
	t.Parallel()
	for _, p := range samples(t) {
		if wrong := words.Kept(p, lift.Program); wrong != "" {
			t.Fatal(wrong)
		}
	}
}

// TestOrderOfCalls: an answer doesn't hang on the calls ahead of it, nor on such that go on beside it.
func TestOrderOfCalls(t *testing.T) {
	t.Parallel()
	if wrong := words.Hangs(samples(t), lift.Program); wrong != "" {
		t.Fatal(wrong)
	}
}

// TestOtherParts has parts that layer 2 never answers, or names that don't hold, or are bound twice: the calls end, and don't panic.
func TestOtherParts(t *testing.T) {
	t.Parallel()
	for p := range made.Odd {
		if _, wrong := words.Again(p, lift.Program); wrong != "" {
			t.Fatal(wrong)
		}
	}
	if q := lift.Program(api.Program{}); len(q.Datas) > 0 || len(q.Defs) > 0 {
		t.Error("of nothing came", q)
	}
}
