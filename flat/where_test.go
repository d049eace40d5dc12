package flat_test

import (
	"fmt"
	"strings"
	"testing"

	"reverie/made"
)

// sevens are cases that are 7, where u is 1 and v is 2.
func sevens() []string {
	return []string{
		"(case u (_ 7))", "(case u (x (+ x 6)))", "(case u (1 7))", "(case u (2 8) (1 7))", "(case (+ u v) (3 7) (_ 8))", "(case (P u v) ((P 1 2) 7) (_ 8))", "(case (P u v) ((P 1 3) 8) ((P 2 _) 9) ((P x y) (+ x (* 3 y))))", "(case (Just (Just u)) ((Just (Just 2)) 8) (No 9) ((Just No) 10) (_ 7))",
		"(case (Box (P u (Box v))) ((Box (P 2 _)) 8) ((Box (P _ (Box 1))) 9) ((Box (P x (Box y))) (+ (* 3 y) x)))", "(case (P (case u (1 v)) (case v (2 u) (_ 0))) ((P 1 _) 8) ((P 2 1) 7))", "(case (< u v) (False 8) (True 7))",
	}
}

// places are expressions with one in the place of @, and what comes of them if that is 7.
func places() [][2]string {
	return [][2]string{
		{"@", "7"}, {"(+ @ 1)", "8"}, {"(- 1 @)", "-6"}, {"(* @ @)", "49"}, {"(cpx @ 1)", "(cpx 7 1)"}, {"(re (cadd (cpx @ 1) (cpx 1 @)))", "8"}, {"(< @ 8)", "True"}, {"(% 15 @)", "1"}, {"(Box @)", "(Box 7)"}, {"(P @ (Box @))", "(P 7 (Box 7))"}, {"(E 1 2 3 @ 5 6 7 @)", "(E 1 2 3 7 5 6 7 7)"},
		{"(id @)", "7"}, {"(k @ 1)", "7"}, {"(k 1 @)", "1"}, {"(k k @ 1 @)", "1"}, {"((fn (x) x) @)", "7"}, {"((fn (x) (+ x @)) 1)", "8"}, {"((fn (x) (fn (y) (- @ x))) 1 2)", "6"}, {"((case @ (7 id) (_ (k 1))) 5)", "5"}, {"((case 1 (1 (fn (x) (+ x @)))) 5)", "12"}, {"(sum (Cons @ (Cons @ Nil)))", "14"},
		{"(let ((x @)) (+ x x))", "14"}, {"(let ((x 1)) (+ x @))", "8"}, {"(let ((x (+ y 1)) (y @)) (+ x y))", "15"}, {"(let ((f (fn (x) (+ x @)))) (f (f 1)))", "15"}, {"(let ((l (Cons @ l))) (case l ((Cons x (Cons y _)) (+ x y))))", "14"}, {"(let ((x (let ((y @)) (+ y 1)))) (k x y'))", "8"},
		{"(case @ (7 1) (_ 2))", "1"}, {"(case @ (6 1) (x x))", "7"}, {"(case @ (_ 1))", "1"}, {"(case @ (x (+ x @)))", "14"}, {"(case (P @ 1) ((P 7 1) @))", "7"}, {"(case (Box @) ((Box 6) 1) ((Box x) (+ x 1)))", "8"}, {"(case 1 (1 @) (2 0))", "7"}, {"(case 2 (1 0) (2 @))", "7"}, {"(case 3 (1 0) (_ @))", "7"}, {"(case 3 (1 0) (x (+ x @)))", "10"},
		{"(case (case @ (6 1) (7 2)) (2 (case @ (7 3))))", "3"}, {"(case (case (case @ (x x)) (7 8)) (8 9))", "9"}, {"(case (case @ (7 (P 1 2)) (_ (P 3 4))) ((P 1 3) 5) ((P x y) (+ x (* y @))))", "15"}, {"(case (let ((x @)) (Box x)) ((Box 6) 1) ((Box 7) 2))", "2"}, {"(case (fn (x) @) (f (f 1)))", "7"},
		{"(case (P 1 (P 2 3)) ((P 1 (P 2 4)) 0) ((P 1 (P 3 3)) 1) (_ @))", "7"}, {"(case (P 1 (P 2 3)) ((P 1 (P 2 4)) @) ((P 1 (P 3 3)) @) (_ (+ @ @)))", "14"},
	}
}

// TestWhere has cases in all places where expressions stand, and in each other.
func TestWhere(t *testing.T) {
	t.Parallel()
	const defs = "(def u () 1) (def v () 2) (def y' () 3) "
	for _, p := range places() {
		for _, c := range sevens() {
			checkText(t, made.WithMain(defs, strings.ReplaceAll(p[0], "@", c)), p[1])
			checkText(t, made.WithMain(defs+"(def f (u v) "+strings.ReplaceAll(p[0], "@", c)+")", "(f 1 2)"), p[1])
		}
		for _, bad := range []string{"(/ 1 0)", "(case 1 (2 7))", "(let ((x x)) x)"} {
			c := "(case (P 1 " + bad + ") ((P 2 2) 8) ((P 1 2) 9) (_ 7))"
			check(t, parsed(t, made.WithMain(defs, strings.ReplaceAll(p[0], "@", c))), most)
		}
	}
}

// TestInDefinitions has cases in several definitions, with parameters and without, that use each other.
func TestInDefinitions(t *testing.T) {
	checkText(t, made.WithMain("(def a () (case b ((P 1 x) x) (_ 0))) (def b () (case c (3 (P 1 c)) (_ (P 2 c)))) (def c () (case (Box 3) ((Box x) x)))", "(P a (P b c))"), "(P 3 (P (P 1 3) 3))")
	checkText(t, made.WithMain("(def even (n) (case n (0 True) (_ (odd (- n 1))))) (def odd (n) (case n (0 False) (1 True) (m (even (- m 1)))))", "(P (even 10) (odd 10))"), "(P True False)")
	checkText(t, made.WithMain("(def zip (a b) (case (P a b) ((P (Cons x xs) (Cons y ys)) (Cons (P x y) (zip xs ys))) (_ Nil)))", "(zip (up 1 4) (up 5 7))"), "(Cons (P 1 5) (Cons (P 2 6) Nil))")
	checkText(t, made.WithMain("(def merge (a b) (case (P a b) ((P Nil l) l) ((P l Nil) l) ((P (Cons x xs) (Cons y ys)) (case (< x y) (True (Cons x (merge xs b))) (_ (Cons y (merge a ys)))))))", "(sum (merge (up 1 9) (up 3 30)))"), "468")
	checkText(t, made.WithMain("(def a () (case a (1 2) (_ 3)))", "a"), loop)
	checkText(t, made.WithMain("(def a () (case b (1 2) (_ 3))) (def b () (case a (x x)))", "b"), loop)
	checkText(t, made.WithMain("(def a () (case a (_ 3))) (def b () (case b (x 4)))", "(P a b)"), "(P 3 4)")
	many := made.Numbered(30, "(def f# (x) (case x ((P 1 (Just 2)) #) ((P 2 (Just x)) x) ((P y No) y)))")
	for n := range 4 {
		checkText(t, made.WithMain(many, fmt.Sprintf("(P (f%d (P 1 (Just 2))) (P (f%d (P 2 (Just 5))) (f%d (P 7 No))))", n*9, n, 29-n)), fmt.Sprintf("(P %d (P 5 7))", n*9))
	}
}
