package lift_test

import (
	"strings"
	"testing"

	"reverie/flat"
	"reverie/fresh"
	"reverie/made"
	"reverie/words"
)

// TestMeant has programs whose outcome would be another one, if a function got other names, or in another order, or if a part stood at another place.
func TestMeant(t *testing.T) {
	t.Parallel()
	const compose, flip, minus, mapped = "(def compose (f g) (fn (x) (f (g x))))", "(def flip (f) (fn (x y) (f y x)))", "(def minus (x) (fn (y) (- x y)))", "(def map (f l) (case l (Nil Nil) ((Cons x xs) (Cons (f x) (map f xs)))))"
	checkMains(t, [][3]string{
		{"", "7", "7"}, {"", "((fn (x) x) 1)", "1"}, {"", "((fn (x y) (P x y)) 1 2)", "(P 1 2)"}, {"", "((fn (x) (fn (y) (P x y))) 1 2)", "(P 1 2)"}, {"", "(((fn (x) (fn (y) (P y x))) 1) 2)", "(P 2 1)"}, {"", "((fn (x) (fn (y) (fn (z) (P z (P x y))))) 1 2 3)", "(P 3 (P 1 2))"}, {"", "((fn (a b c d e f g h) ((fn (i j k) (E h g f e d (- a i) (- b j) (- c k))) 10 20 30)) 1 2 3 4 5 6 7 8)", "(E 8 7 6 5 4 -9 -18 -27)"},
		{minus, "(minus 10 3)", "7"}, {minus, "(let ((g (minus 10))) (P (g 3) (g (g 4))))", "(P 7 4)"}, {"(def minus () (fn (x y) (- x y)))", "(minus 10 3)", "7"}, {"(def f (a b) (fn (c) (E b a c a b c b a)))", "(f 1 2 3)", "(E 2 1 3 1 2 3 2 1)"}, {compose, "(compose (fn (x) (+ x 1)) (compose (fn (x) (* x 2)) (fn (x) (- x 3))) 10)", "15"}, {flip, "(P (flip (fn (a b) (- a b)) 1 10) (flip (flip (fn (a b) (- a b))) 1 10))", "(P 9 -9)"},
		{"", "(let ((a 1) (b 2) (c 3)) ((fn (x) (P c (P a (P x b)))) 4))", "(P 3 (P 1 (P 4 2)))"}, {"", "(let ((n 5)) (let ((f (fn (x) (+ x n)))) (let ((n 100)) (f n))))", "105"}, {"", "(case (P 1 (Just 2)) ((P a (Just b)) ((fn (x) (- (* 10 b) (- a x))) 5)))", "24"}, {"", "(let ((l (Cons (fn (x) (+ x 1)) (Cons (fn (x) (* x 5)) Nil)))) (case l ((Cons f (Cons g _)) (P (f (g 2)) (g (f 2))))))", "(P 11 15)"}, {"", "(case (Box (fn (x y) (- x y))) ((Box f) (f 9 2)))", "7"}, {"", "((case True (True (fn (x) (+ x 1))) (False (fn (x) x))) 4)", "5"},
		{mapped, "(let ((n 10)) (map (fn (x) (+ x n)) (up 1 4)))", "(Cons 11 (Cons 12 (Cons 13 Nil)))"}, {mapped, "(case (map (fn (x) (fn (y) (- x y))) (up 1 4)) ((Cons f (Cons g (Cons h _))) (P (f 10) (P (g 10) (h 10)))))", "(P -9 (P -8 -7))"}, {"(def church (n) (case n (0 (fn (f x) x)) (_ (fn (f x) (f (church (- n 1) f x))))))", "(church 10 (fn (x) (+ x 3)) 1)", "31"}, {"(def sum' (l) (let ((go (fn (a l) (case l (Nil a) ((Cons x xs) (go (+ a x) xs)))))) (go 0 l)))", "(sum' (up 1 11))", "55"},
		{"", "(let ((f (fn (n) (case n (0 1) (_ (* n (f (- n 1)))))))) (f 10))", "3628800"}, {"", "(let ((even (fn (n) (case n (0 True) (_ (odd (- n 1)))))) (odd (fn (n) (case n (0 False) (_ (even (- n 1))))))) (even 51))", "False"}, {"", "(let ((n 3) (f (fn (x) (fn (y) (g (- x n) y)))) (g (fn (x y) (case (< x 0) (True y) (_ (f x (+ y 1))))))) (f 10 0))", "3"}, {"", "(let ((twice (fn (f) (fn (x) (f (f x)))))) (twice twice (twice (fn (x) (* x 2))) 1))", "256"}, {"", "(let ((same (fn (x) x))) (P (same 1) (same True)))", "(P 1 True)"},
		{"", "(id (fn (x) (+ x 1)) 5)", "6"}, {"", "((k (fn (x) x) (fn (x) (fn (y) x))) 5)", "5"}, {"", "(re ((fn (c) (cmul c (cpx 0 1))) (cpx 3 4)))", "-4"}, {"(def f (x) (fn (g) (g x)))", "(P (f 3 (fn (y) (* y y))) (f 4 (fn (f) (- 0 f))))", "(P 9 -4)"}, {"(def f (x) (fn (y) (case y (0 x) (_ (f (+ x 1) (- y 1))))))", "(f 1 10)", "11"}, {"", "(let ((pair (fn (a b) (fn (f) (f a b))))) (P (pair 1 2 (fn (a b) a)) (pair 1 2 (fn (a b) b))))", "(P 1 2)"},
	})
}

// TestLookedAtLate has free names for what has no value, that isn't looked at, or is, ahead of others or behind them.
func TestLookedAtLate(t *testing.T) {
	t.Parallel()
	checkMains(t, [][3]string{
		{"", "(let ((a (/ 1 0))) ((fn (x) (k x a)) 5))", "5"}, {"", "(let ((a (let ((x x)) x))) ((fn (x) (case x (0 a) (_ x))) 5))", "5"}, {"", "((fn (x) ((fn (y) (fst (P y x))) 5)) (/ 1 0))", "5"}, {"", "((fn (x y) 5) (/ 1 0) (case 1 (2 3)))", "5"}, {"", "(let ((f (fn (x) (/ x 0)))) (case f (_ 5)))", "5"}, {"", "(case (fn (x) (/ x 0)) (f (k 5 (f 1))))", "5"}, {"", "(let ((a (/ 1 0)) (f (fn (x) (+ x a)))) (k 5 f))", "5"}, {"", "(let ((a (/ 1 0))) (case (Just (fn (x) a)) ((Just _) 5) (No 6)))", "5"},
		{"", "(let ((a (/ 1 0)) (b (case 1 (2 3)))) ((fn (x) (+ a (+ b x))) 5))", noDiv}, {"", "(let ((a (/ 1 0)) (b (case 1 (2 3)))) ((fn (x) (+ b (+ a x))) 5))", noMatch}, {"", "(let ((a (/ 1 0)) (b (case 1 (2 3)))) ((fn (x) (let ((y (+ a x))) (+ b y))) 5))", noMatch}, {"", "(let ((a (/ 1 0))) ((case a (0 (fn (x) a)) (_ (fn (x) 5))) 5))", noDiv}, {"", "((let ((f f)) f) (fn (x) (/ x 0)))", loop}, {"", "(let ((a (/ 1 0)) (b (let ((x x)) x))) (P ((fn (x) b) 1) ((fn (x) a) 1)))", loop},
	})
}

// TestErrors has programs that stop with each error, in functions and in what is free in them.
func TestErrors(t *testing.T) {
	t.Parallel()
	checkMains(t, [][3]string{
		{"", "(/ 1 0)", noDiv}, {"", "((fn (x) (/ 1 x)) 0)", noDiv}, {"", "(let ((a 0)) ((fn (x) (% x a)) 5))", noDiv}, {"(def f (x) (fn (y) (/ x y)))", "(P (f 1 2) (f 1 0))", noDiv}, {"", "(Cons 1 (Cons ((fn (x) (fn (y) (/ y x))) 0 1) Nil))", noDiv}, {"", "(let ((f (fn (x) (case x (0 (/ 1 x)) (_ (f (- x 1))))))) (f 3))", noDiv}, {"", "((fn (x) (case x (2 3))) 1)", noMatch}, {"", "(let ((a 1)) ((fn (x) (case a (2 x))) 1))", noMatch}, {"", "((case 1 (2 (fn (x) x))) 3)", noMatch}, {"(def f () (fn (x) (case x ((Just y) y))))", "(P (f (Just 1)) (f No))", noMatch},
		{"", "(let ((x x)) x)", loop}, {"", "(let ((x ((fn (y) (+ x y)) 1))) x)", loop}, {"", "(let ((x (f 1)) (f (fn (y) (+ y x)))) x)", loop}, {"", "(let ((f (k f (fn (x) f)))) (f 1))", loop}, {"", "(let ((a (fst (b 1))) (b (fn (x) (P a x)))) a)", loop}, {"", "((fn (x) main) 1)", loop}, {"(def f () (fst (g 1))) (def g () (fn (x) (P f x)))", "(P 1 (+ f 1))", loop}, {"", "(let ((s (fn (x) (S (s x))))) (s 1))", long}, {"", "(let ((f (fn (n) (Cons n (f (+ n 1)))))) (f 1))", long}, {"", "((fn (x) (let ((l (Cons x l))) l)) 1)", long}, {"", "((fn (n) (nat (+ n 1))) 4095)", long},
	})
}

// TestRings has names that stand for what uses them, by way of functions.
func TestRings(t *testing.T) {
	t.Parallel()
	checkMains(t, [][3]string{
		{"", "(let ((x (Cons (f 1) x)) (f (fn (y) (k y x)))) (case x ((Cons _ (Cons a (Cons b _))) (P a b))))", "(P 1 1)"}, {"", "(let ((f (fn (n) (case n (0 g) (_ (k g n))))) (g (fn (n) (case n (0 (f 1 2)) (_ (+ n 1)))))) (P (g 0) (f 0 5)))", "(P 3 6)"}, {"", "(let ((l (Cons 1 (Cons 2 (m l)))) (m (fn (l) (case l ((Cons x (Cons y _)) (Cons (+ x y) Nil)))))) (sum l))", "6"}, {"", "(let ((from (fn (n) (Cons n (from (+ n 1)))))) (case (from 5) ((Cons a (Cons b (Cons c _))) (+ a (+ b c)))))", "18"}, {"", "(let ((box (Box (fn (x) (case box ((Box f) (case x (0 7) (_ (f (- x 1))))))))))  (case box ((Box f) (f 5))))", "7"},
		{"(def f () (fn (n) (case n (0 5) (_ (g (- n 1)))))) (def g () (fn (n) (case n (0 6) (_ (f (- n 1))))))", "(P (f 4) (P (f 5) (g 4)))", "(P 5 (P 6 6))"}, {"", "(let ((x (P 1 (fn (y) (+ y (fst x)))))) ((snd x) 4))", "5"}, {"", "(let ((a (fn (x) (b x))) (b (fn (x) (c x))) (c (fn (x) (case x (0 8) (_ (a (- x 1))))))) (a 3))", "8"},
	})
}

// TestNoEnd has programs without an outcome within any number of steps: what comes of them has none either.
func TestNoEnd(t *testing.T) {
	t.Parallel()
	for _, row := range [][2]string{
		{"(def f (x) (fn (y) (f y x)))", "(f 1 2)"}, {"(def f () (fn (x) (f (+ x 1))))", "(f 1)"}, {"", "(let ((f (fn (x) (f x)))) (f 1))"}, {"", "(let ((f (fn (x) (g x))) (g (fn (x) (+ 1 (f x))))) (f 1))"}, {"", "(let ((a 1) (f (fn (x) (f (+ x a))))) (f a))"}, {"", "(let ((f (fn (x) (fn (y) (f y x))))) (f 1 2))"}, {"", "(let ((n 0) (f (fn (x) (case x (0 n) (_ (f (- x 1))))))) (f -1))"}, {"", "(sum (let ((f (fn (x) (Cons x (f x))))) (f 1)))"},
	} {
		p := fresh.Program(typed(t, made.WithMain(row[0], row[1])))
		for _, p := range append(turns(p)[2:], p, fresh.Program(flat.Program(p))) {
			q := check(t, p)
			for _, fuel := range []int{-1, 0, 1, 10, 1000, 100000} {
				if got := words.Outcome(q, fuel); got != noFuel {
					fail(t, p, q, got)
				}
			}
		}
	}
}

// TestManySteps has programs that take many steps, in functions, and in what is free in them, that is looked at once.
func TestManySteps(t *testing.T) {
	t.Parallel()
	doubled := made.Inside(11, "((fn (x) (let ((y (+ x x))) @)) y)", "y")
	checkMains(t, [][3]string{
		{"", "(let ((y 1)) " + doubled + ")", "2048"}, {"", made.Inside(7, "(let ((a (+ 1 @))) ((fn (x) (+ a (+ a x))) a))", "1"), "5466"}, {"(def f (n) (fn (x) (case n (0 x) (_ (f (- n 1) (+ x n))))))", "(f 500 0)", "125250"}, {"", "(let ((f (fn (n) (case n (0 (fn (x) x)) (_ (let ((g (f (- n 1)))) (fn (x) (g (+ x n)))))))))  (f 200 0))", "20100"}, {"", "(let ((fib (fn (n) (case (< n 2) (True n) (_ (+ (fib (- n 1)) (fib (- n 2)))))))) (fib 14))", "377"}, {"(def fold (f a l) (case l (Nil a) ((Cons x xs) (fold f (f a x) xs))))", "(let ((m 3)) (fold (fn (a x) (+ a (* m x))) 0 (up 0 300)))", "134550"},
		{"", "(let ((a (sum (up 0 200)))) (let ((f (fn (n) (case n (0 a) (_ (k (f (- n 1)) a)))))) (+ (f 100) ((fn (x) (+ a x)) a))))", "59700"}, {"(def apply (n f) (case n (0 f) (_ (apply (- n 1) (fn (x) (f (+ x 1)))))))", "(apply 200 (fn (x) (* x 2)) 0)", "400"},
	})
}

// TestManyWords has programs in which many words are of one kind, so that it shows if more of them come than may.
func TestManyWords(t *testing.T) {
	t.Parallel()
	for _, s := range []string{
		made.Inside(30, "((fn (x) x) @)", "1"), made.Inside(18, "((fn (x) @) 1)", "x"), made.Inside(18, "(case (fn (x) x) (f @))", "(f 1)"), made.Inside(9, "(let ((f (fn (x) @))) (f 1))", "x"), made.Inside(9, "(let ((a @)) ((fn (x) (+ a x)) a))", "1"), made.Inside(9, "((fn (x) (fn (y) @)) 1 2)", "(+ x y)"), made.Inside(18, "(id (fn (x) @) 1)", "x"), made.Inside(5, "(((fn (a b c d e f g h) (fn (i) (E a b c d e f g i))) 1 2 3 4 5 6 7 8) (case @ ((E a _ _ _ _ _ _ _) a)))", "(E 1 2 3 4 5 6 7 8)"),
	} {
		if got := checkMeant(t, typed(t, made.WithMain("", s)), 5000); got == "" || strings.HasPrefix(got, "error") {
			t.Errorf("%s: %q", s, got)
		}
	}
}
