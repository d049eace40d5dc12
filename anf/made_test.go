package anf_test

import (
	"strings"
	"testing"

	"reverie/anf"
	"reverie/api"
	"reverie/flat"
	"reverie/fresh"
	"reverie/made"
	"reverie/words"
)

// TestWild has programs of all kinds of parts, in each other, with few names for very many things.
func TestWild(t *testing.T) {
	t.Parallel()
	news, gone := 0, 0
	for i := range 400 {
		p := made.Wild(1000000+i, made.InTexts())
		checkAll(t, p)
		check(t, made.Wild(i, append(made.InTexts()[:4], made.InNoText()...)))
		news = max(news, len(words.Bound(anf.Program(p)))-len(words.Bound(p)))
		gone = max(gone, len(words.Bound(p))-len(words.Bound(anf.Trim(fresh.Program(p)))))
	}
	if news < 200 || gone < 3 {
		t.Error("no program got more new names than", news, "and lost more than", gone)
	}
}

// TestMadeMeant has programs that have types, with parts of all sorts.
func TestMadeMeant(t *testing.T) {
	t.Parallel()
	kinds := map[string]int{}
	for i := range 240 {
		s := made.Text(1100000+i, made.Rule{Odd: []int{20, 60, 200}[i%3], Alts: 1 + i%6, Deep: 1 + i%4})
		if len(s) > api.MaxSource {
			continue
		}
		p := typed(t, s)
		checkAll(t, p)
		outcome := checkMeant(t, p, 5000)
		if outcome != "" && !strings.HasPrefix(outcome, "error") {
			outcome = "a tree"
		}
		kinds[outcome]++
	}
	for _, outcome := range []string{"a tree", noDiv, noMatch, loop} {
		if kinds[outcome] < 10 {
			t.Error("too few programs of a kind were held:", kinds)
		}
	}
}

// samples are programs of all sorts.
func samples(t *testing.T) (list []api.Program) {
	for _, s := range []string{"1", "(x 1)", "(g (x 1) A)", "((x A) (let ((a x)) (let ((b a)) (b (g a)))) (C A (fn (y) (y (B y)))))", "(let ((a (let ((b x)) b)) (c a)) (case (g (g a)) ((C y z) (y (z A))) (_ (let ((d c)) d))))"} {
		list = append(list, named(t, head+"(def f (x) "+s+")"))
	}
	for i := range 80 {
		if s := made.Text(1200000+i, made.Rule{Odd: 60, Alts: 4, Deep: 3}); len(s) <= api.MaxSource {
			list = append(list, typed(t, s), fresh.Program(typed(t, s)), fresh.Program(flat.Program(typed(t, s))))
		}
		p := made.Wild(1200000+i, append(made.InTexts(), made.InNoText()...))
		list = append(list, p, fresh.Program(p))
	}
	return list
}

// calls are the layer's.
func calls() []words.Call { return []words.Call{anf.Program, anf.Trim} }

// TestNothingIsChanged: what was handed in is as it was, what lies behind its lists' lengths, too, which isn't read.
func TestNothingIsChanged(t *testing.T) {
	t.Parallel()
	for _, p := range samples(t) {
		for _, call := range calls() {
			if wrong := words.Kept(p, call); wrong != "" {
				t.Fatal(wrong)
			}
		}
	}
}

// TestOrderOfCalls: an answer doesn't hang on the calls ahead of it, nor on such that go on beside it.
func TestOrderOfCalls(t *testing.T) {
	t.Parallel()
	for _, call := range calls() {
		if wrong := words.Hangs(samples(t), call); wrong != "" {
			t.Fatal(wrong)
		}
	}
}

// TestOtherParts has parts that layer 2 never answers, or names that don't hold, or are bound twice: the calls end, and don't panic.
func TestOtherParts(t *testing.T) {
	t.Parallel()
	for p := range made.Odd {
		for _, call := range calls() {
			if _, wrong := words.Again(p, call); wrong != "" {
				t.Fatal(wrong)
			}
		}
	}
	for _, call := range calls() {
		if q := call(api.Program{}); len(q.Datas) > 0 || len(q.Defs) > 0 {
			t.Error("of nothing came", q)
		}
	}
}
