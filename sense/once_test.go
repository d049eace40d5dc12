package sense_test

import (
	"fmt"
	"strings"
	"testing"

	"reverie/plain"
)

// checkWords asks for an outcome with just as much fuel as it may take, forty for each of the words that the plain way counts, and that it isn't there with less than one for each.
func checkWords(t *testing.T, s, want string, most int) {
	t.Helper()
	p := parsed(t, s)
	told, c := plain.Run(p, most)
	if told != want {
		t.Fatalf("%s: the plain way says %s (%d words), the test %s", s, brief(told), c.Greatest(), brief(want))
	}
	if got := answer(t, p, 40*c.Greatest()); got != want {
		t.Errorf("%s: %s with %d of fuel, not %s", s, brief(got), 40*c.Greatest(), brief(want))
	}
	if got := answer(t, p, c.Least()-1); got != noFuel {
		t.Errorf("%s: %s with %d of fuel, not %s", s, brief(got), c.Least()-1, noFuel)
	}
}

// TestLookedAtOnce has programs that would take about 2^40 steps, or 3^40, if what has a name were looked at each time.
func TestLookedAtOnce(t *testing.T) {
	const two = "1099511627776" // 2^40
	for _, c := range [][3]string{
		{"(def d (n) (case n (0 1) (_ (let ((x (d (- n 1)))) (+ x x)))))", "(d 40)", two},
		{"(def d (n) (case n (0 1) (_ ((fn (x) (+ x x)) (d (- n 1))))))", "(d 40)", two},
		{"(def d (n) (case n (0 1) (_ (add (d (- n 1)) 0)))) (def add (x y) (+ (+ x x) y))", "(d 40)", two},
		{"(def d (x n) (case n (0 x) (_ (d (+ x x) (- n 1)))))", "(d 1 40)", two},
		{"(def d (n) (case n (0 1) (_ (case (d (- n 1)) (x (+ x x))))))", "(d 40)", two},
		{"(def d (n) (case n (0 1) (_ (case (Box (d (- n 1))) ((Box x) (+ x x))))))", "(d 40)", two},
		{"(def d (n) (case n (0 1) (_ (case (P 0 (Box (d (- n 1)))) ((P _ (Box x)) (+ x x))))))", "(d 40)", two},
		{"(def d (n) (case n (0 1) (_ (let ((b (Box (d (- n 1))))) (case b ((Box x) (case b ((Box y) (+ x y)))))))))", "(d 40)", two},
		{"(def d (n) (case n (0 1) (_ (let ((g (k (d (- n 1))))) (+ (g 1) (g 2))))))", "(d 40)", two},
		{"(def d (n) (case n (0 1) (_ (let ((x (d (- n 1)))) (let ((g (fn (y) x))) (+ (g 1) (g 2)))))))", "(d 40)", two},
		{"(def d (n) (case n (0 1) (_ (let ((x (d (- n 1))) (y x) (z y)) (+ y z)))))", "(d 40)", two},
		{"(def d (n) (case n (0 1) (_ (let ((x (d (- n 1)))) (+ (id x) (id x))))))", "(d 40)", two},
		{"(def d (n) (case n (0 1) (_ (let ((p (P (d (- n 1)) 0))) (+ (fst p) (fst p))))))", "(d 40)", two},
		{"(def d (n) (case n (0 1) (_ (let ((f (let ((x (d (- n 1)))) (fn (y) (+ x y))))) (- (+ (f 1) (f 2)) 3)))))", "(d 40)", two},
		{"(def d (n) (case n (0 1) (_ (let ((f (case (d (- n 1)) (-1 id) (x (fn (y) (+ x y)))))) (- (+ (f 1) (f 2)) 3)))))", "(d 40)", two},
		{"(def d (n) (case n (0 0) (_ (case (d (- n 1)) (-5 0) (-6 0) (x (+ x 1))))))", "(d 40)", "40"},
		{"(def d (n) (case n (0 0) (_ (case (P (d (- n 1)) 1) ((P -5 _) 0) ((P -6 _) 0) ((P x y) (+ x y))))))", "(d 40)", "40"},
		{"(def d (n) (case n (0 (P 0 0)) (_ (case (d (- n 1)) ((P -5 _) (P 0 0)) ((P -6 _) (P 0 0)) ((P x 0) (P (+ x 1) 0))))))", "(fst (d 40))", "40"},
		{"(def d (n) (case n (0 0) (_ (case (d (- n 1)) (-1 0) (-2 0) (-3 0) (_ n)))))", "(d 40)", "40"},
		{"(def d (n) (case n (0 True) (_ (case (d (- n 1)) (False True) (True (case n (41 False) (_ True)))))))", "(d 40)", "True"},
		{doubled(40), "a40", two},
		{"(def twice (f x) (f (f x))) (def d (n) (case n (0 id) (_ (let ((f (d (- n 1)))) (fn (x) (let ((y (f x))) (k y x)))))))", "(d 40 7)", "7"},
	} {
		checkWords(t, withMain(c[0], c[1]), c[2], 20000)
	}
}

// doubled are definitions without parameters, each of which is twice the one ahead of it.
func doubled(n int) string {
	s := "(def a0 () 1) "
	for i := range n {
		s += fmt.Sprintf("(def a%d () (+ a%d a%d)) ", i+1, i, i)
	}
	return s
}

// TestOnceInTrees: a part of a tree that stands in it often is looked at once.
func TestOnceInTrees(t *testing.T) {
	const slow = "(def slow (n) (case n (0 7) (_ (slow (- n 1))))) "
	for _, x := range []string{"(let ((x (slow 500))) LIST)", "((fn (x) LIST) (slow 500))", "(case (slow 500) (x LIST))", "(case (Box (slow 500)) ((Box x) LIST))", "(let ((b (Box (slow 500)))) (case b ((Box x) LIST)))", "(let ((y (slow 500)) (x y)) LIST)"} {
		list, want := "Nil", "Nil"
		for range 15 {
			list, want = "(Cons x "+list+")", "(Cons 7 "+want+")"
		}
		checkWords(t, withMain(slow, strings.ReplaceAll(x, "LIST", list)), want, 20000)
	}
	checkWords(t, withMain(slow+"(def x () (slow 500))", "(P x (P (P x x) (Box x)))"), "(P 7 (P (P 7 7) (Box 7)))", 20000)
	checkWords(t, withMain(slow, "(let ((x (Box (slow 500)))) (P x (P (P x x) x)))"), "(P (Box 7) (P (P (Box 7) (Box 7)) (Box 7)))", 20000)
	checkWords(t, withMain(slow, "(let ((l (Cons (slow 500) (Cons (slow 300) Nil)))) (P (sum l) (P (sum l) l)))"), "(P 14 (P 14 (Cons 7 (Cons 7 Nil))))", 20000)
}

// TestFunctionsAreNotKept: what a function makes of an argument is looked for each time that it gets one.
func TestFunctionsAreNotKept(t *testing.T) {
	const s = "(def f (n) (case n (0 1) (_ (+ (f (- n 1)) (f (- n 1)))))) "
	for n, want := range []string{"1", "2", "4", "8", "16", "32", "64", "128", "256"} {
		checkWords(t, withMain(s, fmt.Sprintf("(f %d)", n)), want, 50000)
	}
	if got := answer(t, parsed(t, withMain(s, "(f 20)")), 1000000); got != noFuel { // some 2^21 calls
		t.Errorf("(f 20): %s, not %s", got, noFuel)
	}
}
