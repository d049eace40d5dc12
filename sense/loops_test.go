package sense_test

import (
	"fmt"
	"testing"
)

// TestLoops has names that need themselves, at once, and by way of others.
func TestLoops(t *testing.T) {
	for _, x := range []string{
		"(let ((x x)) x)", "(let ((x x)) (Box x))", "(let ((x y) (y x)) x)", "(let ((x y) (y z) (z x)) z)", "(let ((a b) (b c) (c d) (d e) (e f) (f g) (g h) (h a)) d)", "(let ((x (+ x 1))) x)", "(let ((x (+ 1 x))) x)", "(let ((x (id x))) x)", "(let ((x (k x 1))) x)", "(let ((x (k y 1)) (y (k x 1))) y)",
		"(let ((x (case x (1 1) (_ 2)))) x)", "(let ((x (case x (y y)))) x)", "(let ((x (case x ((P a b) (P 1 2))))) (fst x))", "(let ((x (case (Box x) ((Box 1) 2) (_ 3)))) x)", "(let ((x (let ((y x)) y))) x)", "(let ((x (let ((y (+ x 1))) (+ y 1)))) x)", "(let ((x ((fn (y) y) x))) x)", "(let ((x ((fn (y) (+ y 1)) x))) (P 1 x))",
		"(let ((x (P (fst x) 1))) x)", "(let ((x (P 1 (snd x)))) (snd x))", "(let ((x (P (snd x) (fst x)))) x)", "(let ((p (P (fst q) 1)) (q (P (fst p) 2))) (fst q))", "(let ((l (case l ((Cons x xs) xs) (_ Nil)))) (sum l))", "(let ((f (id f))) (f 2))", "(let ((f (case (f 1) (1 id) (_ id)))) (f 2))", "(let ((f ((fn (g) g) f))) (f 2))",
		"(let ((x (re (cpx x 1)))) x)", "(let ((c (cpx (re c) 1))) c)", "(let ((c (cadd c c))) c)", "(let ((x (case (< x 1) (True 1) (_ 2)))) x)", "(case (let ((x x)) x) (1 1) (_ 2))", "(case (let ((x x)) x) (y y))", "((let ((f f)) f) 1)",
		"(let ((x (sum (Cons 1 (Cons x Nil))))) x)", "(let ((l (Cons 1 (Cons (sum l) Nil)))) l)", "(let ((n (sum l)) (l (Cons n Nil))) n)", "(let ((t (nat n)) (n (case t (Z 1) (_ 2)))) n)",
	} {
		checkMain(t, x, loop)
	}
}

// TestLoopsOfDefinitions has definitions without parameters that need themselves.
func TestLoopsOfDefinitions(t *testing.T) {
	checkProgram(t, "(def main () main)", loop)
	checkProgram(t, "(def main () (+ main 1))", loop)
	checkProgram(t, "(def main () a) (def a () b) (def b () a)", loop)
	checkProgram(t, "(def main () (+ 1 a)) (def a () (f 3)) (def f (x) (+ x b)) (def b () (f a))", loop)
	checkProgram(t, "(def f (x) main) (def main () (f 1))", loop)
	checkProgram(t, "(def main () (case a (1 2) (_ 3))) (def a () (case main (2 1) (_ 1)))", loop)
	checkProgram(t, withMain("(def a () (P (fst b) 1)) (def b () (P (fst a) 2))", "(fst a)"), loop)
	checkProgram(t, withMain("(def f () (k f 1))", "(f 2)"), loop)
	all := ""
	for i := range 99 {
		all += fmt.Sprintf("(def a%d () (+ 1 a%d)) ", i, (i+1)%99)
	}
	checkProgram(t, all+"(def main () a50)", loop)
}

// TestNoLoops has names that stand in their own expressions, but don't need themselves while they are looked for.
func TestNoLoops(t *testing.T) {
	checkMains(t, [][2]string{
		{"(let ((x (case x (_ 7)))) x)", "7"}, {"(let ((x (k 7 x))) x)", "7"}, {"(let ((x (P 7 (fst x)))) x)", "(P 7 7)"}, {"(let ((x (Cons 1 x))) 7)", "7"}, {"(let ((x (Cons 1 x))) (case x ((Cons _ (Cons y _)) y) (_ 0)))", "1"}, {"(let ((x x)) 7)", "7"}, {"(let ((x (fst (P 7 x)))) x)", "7"},
		{"(let ((x (+ y 1)) (y (case x (_ 6)))) x)", "7"}, {"(let ((f (fn (x) (case x (0 7) (_ (f (- x 1))))))) (f 3))", "7"}, {"(let ((x (case 1 (1 7) (_ x)))) x)", "7"}, {"(let ((x ((fn (y z) y) 7 x))) x)", "7"}, {"(let ((f (fn (x) x)) (y (f z)) (z (f 7))) y)", "7"},
		{"(let ((p (P q 7)) (q (case p ((P _ x) x)))) q)", "7"}, {"(let ((l (Cons 7 (case l ((Cons x xs) (Cons x Nil)) (_ Nil))))) l)", "(Cons 7 (Cons 7 Nil))"}, {"(let ((x 7)) (let ((y (+ x x)) (z (+ x x))) (- (+ y z) (+ x (+ x x)))))", "7"},
	})
	checkProgram(t, "(def main () (case 1 (1 7) (_ main)))", "7")
	checkProgram(t, "(def f (n) (case n (0 7) (_ (f (- n 1))))) (def main () (f 1000))", "7")
	checkProgram(t, withMain("(def ones () (Cons 1 ones))", "(case ones ((Cons x (Cons y _)) (+ x y)) (_ 0))"), "2")
}

// TestCallsAreNoLoops: a function that calls itself without end takes steps without end, and needs no value that is being looked for.
func TestCallsAreNoLoops(t *testing.T) {
	for _, s := range []string{
		"(def f (x) (f x)) (def main () (f 1))", "(def f (x) (f (+ x 1))) (def main () (f 1))", "(def f (x) (+ 1 (f x))) (def main () (f 1))", "(def f (x) (g x)) (def g (x) (f x)) (def main () (f 1))", "(def f (x y) (f y x)) (def main () (f 1 2))", "(def f (x) (case (f x) (1 2) (_ 3))) (def main () (f 1))",
		"(def main () (let ((f (fn (x) (f x)))) (f 1)))", "(data R (a) (R (-> (R a) a))) (def un (r) (case r ((R f) f))) (def main () ((fn (r) (un r r)) (R (fn (r) (un r r)))))", "(def f (x) (let ((y (f y))) y)) (def main () (f 1))",
	} {
		if got := answer(t, parsed(t, s), 100000); got != noFuel {
			t.Errorf("%s: %s, not %s", s, got, noFuel)
		}
	}
}
