package anf_test

import (
	"fmt"
	"strings"
	"testing"

	"reverie/api"
	"reverie/flat"
	"reverie/fresh"
	"reverie/made"
	"reverie/words"
)

// TestMeant has programs whose outcome would be another one, or would take more steps, if a part stood at another place, or were looked at more often.
func TestMeant(t *testing.T) {
	t.Parallel()
	checkMains(t, [][3]string{
		{"", "7", "7"}, {"", "(P (+ 1 2) (P (id 3) (Box 4)))", "(P 3 (P 3 (Box 4)))"}, {"", "(Cons (id 1) (Cons ((k 2) 3) Nil))", "(Cons 1 (Cons 2 Nil))"}, {"", "(E (+ 1 1) 2 (id 3) (k 4 5) (- 9 4) ((fn (x) x) 6) (let ((x 7)) x) (case 8 (x x)))", "(E 2 2 3 4 5 6 7 8)"}, {"", "(re (cmul (id (cpx 1 2)) (k (cpx 3 (+ 2 2)) 1)))", "-5"}, {"", "(k 1 2)", "1"}, {"", "(((k k) 1) 2 3)", "2"}, {"", "(id id id (id id) 5)", "5"},
		{"", "((fn (x) (fn (y) (- x y))) (+ 1 2) (+ 3 4))", "-4"}, {"", "((fn (a b c d e f g h) (E h g f e d c b a)) (id 1) (id 2) (id 3) (id 4) (id 5) (id 6) (id 7) (id 8))", "(E 8 7 6 5 4 3 2 1)"}, {"", "((let ((f (fn (x) (+ x 1)))) f) ((case 1 (1 id) (_ (k 2))) 3))", "4"}, {"", "(let ((f (fn (x y) (P x y)))) (let ((g (f (id 1)))) (P (g (id 2)) (g (id 3)))))", "(P (P 1 2) (P 1 3))"},
		{"", "(let ((l (Cons 1 (Cons (+ 1 1) l)))) (case l ((Cons x (Cons y (Cons z _))) (P x (P y z)))))", "(P 1 (P 2 1))"}, {"", "(let ((f (fn (n) (case n (0 Nil) (_ (Cons (* n n) (f (- n 1)))))))) (sum (f (+ 5 5))))", "385"}, {"", "(let ((x (P (+ 1 2) (snd x)))) (fst x))", "3"}, {"", "(let ((even (fn (n) (case n (0 True) (_ (odd (- n 1)))))) (odd (fn (n) (case n (0 False) (_ (even (- n 1))))))) (even (+ 50 51)))", "False"},
		{"(def twice (f x) (f (f x)))", "(twice (twice (twice (twice (fn (x) (+ x 1))))) 0)", "16"}, {"(def twice (f x) (f (f x)))", "(twice twice (twice (fn (x) (* x 2))) 1)", "256"}, {"(def map (f l) (case l (Nil Nil) ((Cons x xs) (Cons (f x) (map f xs)))))", "(map (fn (x) (k (+ x 1) (/ x 0))) (map id (up (id 1) (+ 2 2))))", "(Cons 2 (Cons 3 (Cons 4 Nil)))"},
		{"(def double (x) (+ x x))", "(double (double (double (double (double (double (double (double (double (double (+ 1 0)))))))))))", "1024"}, {"", "(let ((d (fn (p) (P p p)))) (case (d (d (d (+ 1 2)))) ((P (P (P a b) _) (P _ (P c d))) (+ (+ a b) (+ c d)))))", "12"}, {"(def f (n x) (case n (0 x) (_ (f (- n 1) (+ x (* n n))))))", "(f (id 100) (- 1 1))", "338350"},
		{"", "(case (P (id 1) (Just (+ 1 1))) ((P 2 _) (P 0 0)) ((P x (Just y)) (P x (id y))))", "(P 1 2)"}, {"", "(case (fn (x) (id (+ x 1))) (f (P (f (f 1)) (f ((fn (x) (f x)) 2)))))", "(P 3 4)"}, {"", "((case (Box (fn (x y) (- x y))) ((Box f) (f (id 9)))) (id 2))", "7"}, {"", "(let ((f (let ((n (+ 1 2))) (fn (x) (+ (id n) x))))) (f (f (f 0))))", "9"},
	})
}

// TestLookedAtLate has parts without a value that aren't looked at, and would be in other places; and such that are the first ones that are.
func TestLookedAtLate(t *testing.T) {
	t.Parallel()
	checkMains(t, [][3]string{
		{"", "(k 1 (/ 1 0))", "1"}, {"", "(k (id 1) (let ((x x)) x))", "1"}, {"", "(fst (P 1 (case 1 (2 3))))", "1"}, {"", "(case (Cons 1 (let ((x x)) x)) ((Cons x _) x))", "1"}, {"", "(let ((x (id (/ 1 0)))) 5)", "5"}, {"", "(case (id (/ 1 0)) (_ 5))", "5"}, {"", "(case 1 (2 (id (/ 1 0))) (_ 5))", "5"}, {"", "(case 1 (1 5) (_ (id (let ((x x)) x))))", "5"}, {"", "((fn (x) 5) ((fn (y) (/ y 0)) 1))", "5"}, {"", "(let ((f (fn (x) (id (/ x 0))))) (k 5 (f 1)))", "5"}, {"", "(case (fn (x) (id (/ x 0))) (f (k 5 f)))", "5"}, {"", "((k id (fn (x) (case (/ 1 0) (_ (/ 1 0))))) 5)", "5"},
		{"", "(+ (id (/ 1 0)) (case 1 (2 3)))", noDiv}, {"", "(+ (case 1 (2 3)) (id (/ 1 0)))", noMatch}, {"", "((fn (x y) (+ y x)) (/ 1 0) (case 1 (2 3)))", noMatch}, {"", "((fn (x y) (+ x y)) (/ 1 0) (case 1 (2 3)))", noDiv}, {"", "((case 1 (2 id)) (/ 1 0))", noMatch}, {"", "((let ((f f)) f) (/ 1 0))", loop}, {"", "(P (/ 1 0) (case 1 (2 3)))", noDiv}, {"", "(P (case 1 (2 3)) (let ((x x)) x))", noMatch}, {"", "(Cons 1 (Cons (let ((x x)) x) (case 1 (2 Nil))))", loop},
	})
}

// TestErrors has programs that stop with each error, within parts that get names.
func TestErrors(t *testing.T) {
	t.Parallel()
	checkMains(t, [][3]string{
		{"", "(/ 1 0)", noDiv}, {"", "(id (/ 1 0))", noDiv}, {"", "((fn (x) (% (id x) (- x x))) (+ 1 2))", noDiv}, {"", "(Box (id (/ 1 0)))", noDiv}, {"", "(Cons 1 (Cons (+ 1 (id (/ 1 0))) Nil))", noDiv}, {"", "(let ((f (fn (x) (case x (0 (/ 1 x)) (_ (f (- x 1))))))) (f (+ 1 2)))", noDiv}, {"", "(case 1 (2 3))", noMatch}, {"", "(id (case 1 (2 3)))", noMatch}, {"", "((case 1 (2 id)) 3)", noMatch}, {"", "(case (id (Just (+ 1 1))) ((Just 3) 1) (No 2))", noMatch}, {"", "(P (id 1) (k (case (P 1 2) ((P 2 x) x)) 3))", noMatch}, {"", "(let ((x x)) x)", loop}, {"", "(let ((x (id x))) x)", loop},
		{"", "(let ((x (+ 1 (id x)))) (id x))", loop}, {"", "(let ((x (f y)) (y (f x)) (f (fn (z) (+ z 1)))) (f x))", loop}, {"", "(let ((x (case x ((P a _) (P a 1))))) (fst x))", loop}, {"", "main", loop}, {"", "(id (k main 1))", loop}, {"", "(let ((s (S s))) s)", long}, {"", "(let ((f (fn (n) (S (f (+ n 1)))))) (f 1))", long}, {"", "(up (+ 1 0) (id 3000))", long}, {"", "(let ((x (Cons (id 1) x))) x)", long}, {"", "(nat (+ 4000 96))", long},
	})
}

// TestRings has names that stand for what uses them.
func TestRings(t *testing.T) {
	t.Parallel()
	checkMains(t, [][3]string{
		{"", "(let ((x (Cons 1 (Cons 2 x)))) (case x ((Cons _ (Cons _ (Cons a (Cons b _)))) (P a b))))", "(P 1 2)"}, {"", "(let ((x (Cons (fst y) x)) (y (P (+ 1 2) x))) (case (snd y) ((Cons a (Cons b _)) (P a b))))", "(P 3 3)"}, {"", "(let ((f (fn (x) (k (case x (0 1) (_ (* x (f (- x 1))))) f)))) (f 10))", "3628800"}, {"", "(let ((l (Cons 1 (Cons (case l ((Cons x _) (+ x 1))) (case l ((Cons _ (Cons y _)) (Cons (+ y 1) Nil))))))) (sum l))", "6"}, {"", "(let ((x (id y)) (y (k 3 x))) (+ x y))", "6"}, {"", "(let ((x (P (k 1 x) (snd y))) (y (P (fst x) 2))) (P x y))", "(P (P 1 2) (P 1 2))"},
		{"", "(let ((from (fn (n) (Cons n (from (+ n 1)))))) (case (from (id 5)) ((Cons a (Cons b (Cons c _))) (+ a (+ b c)))))", "18"},
	})
}

// TestNoEnd has programs without an outcome within any number of steps: what comes of them has none either.
func TestNoEnd(t *testing.T) {
	t.Parallel()
	for _, row := range [][2]string{
		{"(def f (x) (f x))", "(f 1)"}, {"(def f (x) (f (id x)))", "(f (+ 1 2))"}, {"(def f (x) (id (f (+ x 1))))", "(f 1)"}, {"(def f (x y) ((f y) (id x)))", "(f 1 2)"}, {"", "(let ((f (fn (x) (+ 1 (f (id x)))))) (f 1))"}, {"", "(sum (let ((x (Cons (id 1) x))) x))"}, {"(def f (n) (case n (0 1) (_ (f (- n 1)))))", "(f (- 0 1))"}, {"(def f (x) (let ((y x)) (let ((z y)) (f z))))", "(f 1)"}, {"", "(let ((f (fn (x) (case (id x) (y (f (+ y 1))))))) (f (id 1)))"},
	} {
		p := typed(t, made.WithMain(row[0], row[1]))
		for _, p := range []api.Program{p, flat.Program(p), fresh.Program(p), fresh.Program(flat.Program(p))} {
			list := []api.Program{p, check(t, p)}
			if words.Twice(p) == "" {
				list = append(list, checkTrim(t, p), checkTrim(t, check(t, p)), check(t, checkTrim(t, p)))
			}
			for _, q := range list {
				for _, fuel := range []int{-1, 0, 1, 10, 1000, 100000} {
					if got := words.Outcome(q, fuel); got != noFuel {
						fail(t, p, q, got)
					}
				}
			}
		}
	}
}

// TestManySteps has programs that take many steps, in parts that get names, and behind names for names.
func TestManySteps(t *testing.T) {
	t.Parallel()
	const doubled = "(let ((a# (+ (id b#) (id b#)))) (let ((b@ a#)) "
	s := "(let ((b0 1)) "
	for i := range 15 {
		s += strings.NewReplacer("#", fmt.Sprint(i), "@", fmt.Sprint(i+1)).Replace(doubled)
	}
	checkMains(t, [][3]string{
		{"", s + "(id b15)" + strings.Repeat(")", 31), "32768"}, {"(def f (n x) (case (id n) (0 x) (m (let ((k m)) (f (- k 1) (id x))))))", "(f (+ 300 300) 5)", "5"}, {"(def f (n) (case (< n 1) (True (id 5)) (_ (let ((m n)) (let ((k m)) (id id (f (- k 1))))))))", "(f 500)", "5"}, {"", "(sum (up (id 0) (+ 400 100)))", "124750"}, {"(def fib (n) (case (< n 2) (True n) (_ (+ (fib (- n 1)) (fib (- n 2))))))", "(fib (+ 10 4))", "377"},
		{"(def join (a b) (case a (Nil b) ((Cons x xs) (Cons x (join xs b)))))", "(sum (join (join (up 0 100) (up 0 100)) (join (up 0 100) (id Nil))))", "14850"}, {"(def f (n) (case n (0 (P 1 2)) (_ (case (f (- n 1)) ((P x y) (P (+ y 0) (id x)))))))", "(f 301)", "(P 2 1)"},
	})
}

// TestManyWords has programs in which many words are of one kind, so that it shows if more of them come than may.
func TestManyWords(t *testing.T) {
	t.Parallel()
	for _, s := range []string{
		made.Inside(35, "(id @)", "1"), made.Inside(35, "(id id @)", "1"), made.Inside(30, "(k @ (id 2))", "1"), made.Inside(12, "((fn (x) (id @)) (id 1))", "x"), made.Inside(35, "(S @)", "Z"), made.Inside(35, "(P (id 1) @)", "1"), made.Inside(35, "(+ (id 1) @)", "1"), made.Inside(12, "(let ((x @)) (id x))", "1"), made.Inside(17, "(case (Box @) ((Box x) (id x)))", "1"), made.Inside(12, "(case (id 1) (y (let ((z y)) @)))", "1"), made.Inside(7, "(((((k id) (id 1)) k) @) (id 2))", "1"),
		made.Inside(4, "(((((((((fn (a b c d e f g h) a) @) (id 2)) (id 3)) (id 4)) (id 5)) (id 6)) (id 7)) (id 8))", "1"),
	} {
		if got := checkMeant(t, typed(t, made.WithMain("", s)), 5000); got == "" || strings.HasPrefix(got, "error") {
			t.Errorf("%s: %q", s, got)
		}
	}
}
